/- The code's Add and Sub. -/
import Derived.Test.YtpoiojacpaglcaaRatMul
import Derived.Deep.DeepCutAuto
namespace Go.Proofs.Ytpoiojacpaglcaa
open Go.RowKit
namespace RM
theorem hi_div_a (v d : Int) (hd : 1 ≤ d ∧ d ≤ 18446744073709551615) (hv : -9223372036854775808 ≤ hi64 v ∧ hi64 v ≤ 9223372036854775807) : -9223372036854775808 ≤ hi64 (v / d) ∧ hi64 (v / d) ≤ 9223372036854775807 := by
  obtain ⟨e, _⟩ := wide_div v d hd
  rw [e]
  have := ediv_facts (hi64 v) d (by omega) hv
  omega
theorem addS_bad1 {a b c d : Int} (h : ok a b = false) : addS a b c d = (0, 0, 1) := by simp [addS, h]
theorem addS_bad2 {a b c d : Int} (h : ok c d = false) : addS a b c d = (0, 0, 1) := by simp [addS, h]
theorem gcd_mod (N g : Int) (_hg : 0 < g) : Nat.gcd (N % g).natAbs g.natAbs = Nat.gcd N.natAbs g.natAbs := by
  have e := Int.mul_ediv_add_emod N g
  apply Nat.dvd_antisymm
  · apply Nat.dvd_gcd _ (Nat.gcd_dvd_right _ _)
    rw [← Int.natCast_dvd_natCast, Int.dvd_natAbs]
    have h1 : ((Nat.gcd (N % g).natAbs g.natAbs : Nat) : Int) ∣ N % g := by rw [← Int.dvd_natAbs]; exact Int.natCast_dvd_natCast.2 (Nat.gcd_dvd_left _ _)
    have h2 : ((Nat.gcd (N % g).natAbs g.natAbs : Nat) : Int) ∣ g := by rw [← Int.dvd_natAbs]; exact Int.natCast_dvd_natCast.2 (Nat.gcd_dvd_right _ _)
    have h3 := Int.dvd_add (Int.dvd_trans h2 (Int.dvd_mul_right _ (N / g))) h1
    rw [e] at h3
    exact h3
  · apply Nat.dvd_gcd _ (Nat.gcd_dvd_right _ _)
    rw [← Int.natCast_dvd_natCast, Int.dvd_natAbs]
    have h1 : ((Nat.gcd N.natAbs g.natAbs : Nat) : Int) ∣ N := by rw [← Int.dvd_natAbs]; exact Int.natCast_dvd_natCast.2 (Nat.gcd_dvd_left _ _)
    have h2 : ((Nat.gcd N.natAbs g.natAbs : Nat) : Int) ∣ g := by rw [← Int.dvd_natAbs]; exact Int.natCast_dvd_natCast.2 (Nat.gcd_dvd_right _ _)
    have e2 : N % g = N - g * (N / g) := by omega
    rw [e2]
    exact Int.dvd_sub h1 (Int.dvd_trans h2 (Int.dvd_mul_right _ _))
theorem prod_bd63 (x y : Int) (hx : -9223372036854775807 ≤ x ∧ x ≤ 9223372036854775807) (hy : 1 ≤ y ∧ y ≤ 9223372036854775807) :
    -85070591730234615847396907784232501249 ≤ x * y ∧ x * y ≤ 85070591730234615847396907784232501249 := by
  have h : (x * y).natAbs ≤ 9223372036854775807 * 9223372036854775807 := by
    rw [Int.natAbs_mul]; exact Nat.mul_le_mul (by omega) (by omega)
  omega
theorem add_facts {a b c d : Int} (h1 : ok a b = true) (h2 : ok c d = true) (ha : a ≤ 9223372036854775807) (hc : c ≤ 9223372036854775807) (hb : b ≤ 9223372036854775807) (hd : d ≤ 9223372036854775807) :
    ∃ g x y e z : Int, ((Nat.gcd b.natAbs d.natAbs : Nat) : Int) = g ∧ 1 ≤ g ∧ g ≤ 9223372036854775807 ∧ b / g = x ∧ 1 ≤ x ∧ x ≤ 9223372036854775807 ∧ d / g = y ∧ 1 ≤ y ∧ y ≤ 9223372036854775807
    ∧ ((Nat.gcd ((a * y + c * x) % g).natAbs g.natAbs : Nat) : Int) = e ∧ 1 ≤ e ∧ e ≤ 9223372036854775807 ∧ d / e = z ∧ 1 ≤ z ∧ z ≤ 9223372036854775807
    ∧ -9223372036854775808 ≤ hi64 (a * y + c * x) ∧ hi64 (a * y + c * x) ≤ 9223372036854775807
    ∧ fitS ((a * y + c * x) / e) (x * z) = addS a b c d := by
  obtain ⟨p1, p2, _⟩ := ok_parts h1
  obtain ⟨p3, p4, _⟩ := ok_parts h2
  have k1 : 0 < Nat.gcd b.natAbs d.natAbs := Nat.gcd_pos_of_pos_right _ (by omega)
  have l1 : Nat.gcd b.natAbs d.natAbs ≤ d.natAbs := Nat.gcd_le_right _ (by omega)
  have l2 : Nat.gcd b.natAbs d.natAbs ≤ b.natAbs := Nat.gcd_le_left _ (by omega)
  have gd : Nat.gcd b.natAbs d.natAbs ∣ d.natAbs := Nat.gcd_dvd_right _ _
  have mp := add_parts (q a b) (q c d)
  have eb : (q a b).den = b.natAbs := by have := q_den h1; omega
  have ed : (q c d).den = d.natAbs := by have := q_den h2; omega
  rw [q_num h1, q_num h2, eb, ed] at mp
  have f1 : (b.natAbs : Int) = b := by omega
  have f2 : (d.natAbs : Int) = d := by omega
  rw [Int.natCast_ediv, Int.natCast_ediv, f1, f2] at mp
  have m1 : 1 ≤ b / ((Nat.gcd b.natAbs d.natAbs : Nat) : Int) := by rw [Int.le_ediv_iff_mul_le (by omega)]; omega
  have m2 : 1 ≤ d / ((Nat.gcd b.natAbs d.natAbs : Nat) : Int) := by rw [Int.le_ediv_iff_mul_le (by omega)]; omega
  have n1 : b / ((Nat.gcd b.natAbs d.natAbs : Nat) : Int) ≤ b := Int.ediv_le_self _ (by omega)
  have n2 : d / ((Nat.gcd b.natAbs d.natAbs : Nat) : Int) ≤ d := Int.ediv_le_self _ (by omega)
  have hx : (b.natAbs / Nat.gcd b.natAbs d.natAbs : Nat) = (b / ((Nat.gcd b.natAbs d.natAbs : Nat) : Int)).natAbs := by
    have : ((b.natAbs / Nat.gcd b.natAbs d.natAbs : Nat) : Int) = b / ((Nat.gcd b.natAbs d.natAbs : Nat) : Int) := by rw [Int.natCast_ediv, f1]
    omega
  rw [hx] at mp
  generalize hgg : Nat.gcd b.natAbs d.natAbs = gn at *
  generalize hxx : b / (gn : Int) = x at *
  generalize hyy : d / (gn : Int) = y at *
  have hgm := gcd_mod (a * y + c * x) gn (by omega)
  rw [show ((gn : Int)).natAbs = gn from rfl] at hgm
  have ke : 0 < Nat.gcd (a * y + c * x).natAbs gn := Nat.gcd_pos_of_pos_right _ (by omega)
  have le : Nat.gcd (a * y + c * x).natAbs gn ≤ gn := Nat.gcd_le_right _ (by omega)
  have de : Nat.gcd (a * y + c * x).natAbs gn ∣ d.natAbs := Nat.dvd_trans (Nat.gcd_dvd_right _ _) gd
  have b1 := prod_bd63 a y (by omega) (by omega)
  have b2 := prod_bd63 c x (by omega) (by omega)
  have hN := hi_bd (a * y + c * x) (by omega)
  generalize hN2 : a * y + c * x = N at *
  have mz : 1 ≤ d / ((Nat.gcd N.natAbs gn : Nat) : Int) := by rw [Int.le_ediv_iff_mul_le (by omega)]; omega
  have nz : d / ((Nat.gcd N.natAbs gn : Nat) : Int) ≤ d := Int.ediv_le_self _ (by omega)
  refine ⟨gn, x, y, ((Nat.gcd N.natAbs gn : Nat) : Int), d / ((Nat.gcd N.natAbs gn : Nat) : Int), rfl, by omega, by omega, hxx, m1, by omega, hyy, m2, by omega, ?_, by omega, by omega, rfl, mz, by omega, ?_, ?_, ?_⟩
  · rw [hN2, ← hgm]; rfl
  · rw [hN2]; exact hN.1
  · rw [hN2]; exact hN.2
  · rw [addS, if_pos ⟨h1, h2⟩, hN2]
    refine fit_enc _ _ _ mp.1 ?_
    rw [mp.2, Nat.mul_div_assoc _ de, Int.natCast_mul, Int.natCast_ediv, f2]
    rw [show ((x.natAbs : Nat) : Int) = x by omega]
end RM

theorem cell_drewN_new (w : World) (n : Nat) (O : Obj) (o : Nat) : ((w.drewN n).alloc O).cell? ⟨w.heap.size, o, none⟩ = (w.alloc O).cell? ⟨w.heap.size, o, none⟩ := rfl
theorem frozen_drewN_new (w : World) (n : Nat) (O : Obj) (o : Nat) : ((w.drewN n).alloc O).frozen? ⟨w.heap.size, o, none⟩ = (w.alloc O).frozen? ⟨w.heap.size, o, none⟩ := rfl

set_option linter.unusedSimpArgs false in
set_option linter.unusedVariables false in
set_option maxHeartbeats 4000000 in
theorem Add_c (a b c d : Int) (ha : -9223372036854775808 ≤ a ∧ a ≤ 9223372036854775807) (hb : -9223372036854775808 ≤ b ∧ b ≤ 9223372036854775807) (hc : -9223372036854775808 ≤ c ∧ c ≤ 9223372036854775807) (hd : -9223372036854775808 ≤ d ∧ d ≤ 9223372036854775807) (w : World) :
    Calls Try.prog 16 #[.agg #[.int .i64 a, .int .i64 b], .agg #[.int .i64 c, .int .i64 d]] w fun e w' => e = .returned (.tuple #[.agg #[.int .i64 (RM.addS a b c d).1, .int .i64 (RM.addS a b c d).2.1], .int .i64 (RM.addS a b c d).2.2]) ∧ Below w.heap.size w w' := by
  cases k1 : RM.ok a b
  · have HE := Lib.hid (RM.addS_bad1 (c := c) (d := d) k1)
    go_enter Try.func16, Try.ntmps16
    go_wp2_with fail
    refine (valid_c a b ha hb _).mono ?_
    rintro e w1 ⟨rfl, hb1⟩
    have hc1 := old_cell hb1
    have hf1 := old_frozen hb1
    have hs1 := hb1.size
    (try simp only [World.size_alloc, World.size_setCell, World.size_drew, size_drewN] at hs1)
    have lw_1 : w.heap.size < w1.heap.size := (by omega)
    have mw_1 : w.heap.size < w1.heap.size + 1 := (by omega)
    have nw_1 : ¬ w.heap.size = w1.heap.size := (by omega)
    have lwp1_1 : w.heap.size + 1 < w1.heap.size := (by omega)
    have mwp1_1 : w.heap.size + 1 < w1.heap.size + 1 := (by omega)
    have nwp1_1 : ¬ w.heap.size + 1 = w1.heap.size := (by omega)
    have ly_1 : w.heap.size + 1 + 1 < w1.heap.size := (by omega)
    have ny_1 : ¬ w.heap.size + 1 + 1 = w1.heap.size := (by omega)
    go_wp2
    refine bodyPost_ret (v := .tuple #[.agg #[.int .i64 0, .int .i64 0], .int .i64 1]) (by simp [results, Try.results16, go_sem, *]) rfl ⟨ret_rat HE.out, ?_⟩
    (repeat' (first | (with_reducible exact Below.refl _ _) | (with_reducible refine Below.alloc ?_ ?_ _) | (with_reducible refine below_drewN' ?_ _) | (with_reducible refine Below.drew ?_) | (with_reducible refine Below.setCell ?_ ?_ _) | (with_reducible refine Below.trans ?_ (Below.mono (by with_reducible assumption) ?_)) | go_size))
  · cases k2 : RM.ok c d
    · have HE := Lib.hid (RM.addS_bad2 (a := a) (b := b) k2)
      go_enter Try.func16, Try.ntmps16
      go_wp2_with fail
      refine (valid_c a b ha hb _).mono ?_
      rintro e w1 ⟨rfl, hb1⟩
      have hc1 := old_cell hb1
      have hf1 := old_frozen hb1
      have hs1 := hb1.size
      (try simp only [World.size_alloc, World.size_setCell, World.size_drew, size_drewN] at hs1)
      have lw_1 : w.heap.size < w1.heap.size := (by omega)
      have mw_1 : w.heap.size < w1.heap.size + 1 := (by omega)
      have nw_1 : ¬ w.heap.size = w1.heap.size := (by omega)
      have lwp1_1 : w.heap.size + 1 < w1.heap.size := (by omega)
      have mwp1_1 : w.heap.size + 1 < w1.heap.size + 1 := (by omega)
      have nwp1_1 : ¬ w.heap.size + 1 = w1.heap.size := (by omega)
      have ly_1 : w.heap.size + 1 + 1 < w1.heap.size := (by omega)
      have ny_1 : ¬ w.heap.size + 1 + 1 = w1.heap.size := (by omega)
      go_wp2_with fail
      refine (valid_c c d hc hd _).mono ?_
      rintro e w2 ⟨rfl, hb2⟩
      have hc2 := old_cell hb2
      have hf2 := old_frozen hb2
      have hs2 := hb2.size
      (try simp only [World.size_alloc, World.size_setCell, World.size_drew, size_drewN] at hs2)
      have lw_2 : w.heap.size < w2.heap.size := (by omega)
      have mw_2 : w.heap.size < w2.heap.size + 1 := (by omega)
      have nw_2 : ¬ w.heap.size = w2.heap.size := (by omega)
      have lwp1_2 : w.heap.size + 1 < w2.heap.size := (by omega)
      have mwp1_2 : w.heap.size + 1 < w2.heap.size + 1 := (by omega)
      have nwp1_2 : ¬ w.heap.size + 1 = w2.heap.size := (by omega)
      have ly_2 : w.heap.size + 1 + 1 < w2.heap.size := (by omega)
      have ny_2 : ¬ w.heap.size + 1 + 1 = w2.heap.size := (by omega)
      go_wp2
      refine bodyPost_ret (v := .tuple #[.agg #[.int .i64 0, .int .i64 0], .int .i64 1]) (by simp [results, Try.results16, go_sem, *]) rfl ⟨ret_rat HE.out, ?_⟩
      (repeat' (first | (with_reducible exact Below.refl _ _) | (with_reducible refine Below.alloc ?_ ?_ _) | (with_reducible refine below_drewN' ?_ _) | (with_reducible refine Below.drew ?_) | (with_reducible refine Below.setCell ?_ ?_ _) | (with_reducible refine Below.trans ?_ (Below.mono (by with_reducible assumption) ?_)) | go_size))
    · obtain ⟨g, x, y, e, z, hg, g1, g2, hx, x1, x2, hy, y1, y2, he, e1, e2, hz, zz1, zz2, hN1, hN2, hE⟩ := RM.add_facts k1 k2 ha.2 hc.2 hb.2 hd.2
      obtain ⟨v1, v2, _⟩ := RM.ok_parts k1
      obtain ⟨v3, v4, _⟩ := RM.ok_parts k2
      have HE := Lib.hid hE
      clear hE
      have hN := And.intro hN1 hN2
      clear hN1 hN2
      have z1 := RM.prod_bd128 a y ha (by omega)
      have z2 := RM.prod_bd128 c x hc (by omega)
      have w1' := IntWalk.u64_in b (by omega)
      have w2' := IntWalk.u64_in d (by omega)
      have w3' := IntWalk.i64_in g (by omega)
      have w4' := IntWalk.i64_in x (by omega)
      have w5' := IntWalk.i64_in y (by omega)
      have w6' := IntWalk.i64_in e (by omega)
      have w7' := IntWalk.i64_in z (by omega)
      have t1 := Int.tdiv_eq_ediv_of_nonneg (a := b) (b := g) (by omega)
      have t2 := Int.tdiv_eq_ediv_of_nonneg (a := d) (b := g) (by omega)
      have t3 := Int.tdiv_eq_ediv_of_nonneg (a := d) (b := e) (by omega)
      have n1' : ¬ g = 0 := by omega
      have z3 : -9223372036854775808 ≤ RM.hi64 ((a * y + c * x) / e) ∧ RM.hi64 ((a * y + c * x) / e) ≤ 9223372036854775807 := RM.hi_div_a _ _ (by omega) hN
      have z4 := RM.prod_bd128 x z (by omega) (by omega)
      have n2' : ¬ e = 0 := by omega
      have m1 := Int.emod_nonneg (a * y + c * x) n1'
      have m2 := Int.emod_lt_of_pos (a * y + c * x) (show 0 < g by omega)
      go_enter Try.func16, Try.ntmps16
      go_wp2_with fail
      refine (valid_c a b ha hb _).mono ?_
      rintro e w1 ⟨rfl, hb1⟩
      have hc1 := old_cell hb1
      have hf1 := old_frozen hb1
      have hs1 := hb1.size
      (try simp only [World.size_alloc, World.size_setCell, World.size_drew, size_drewN] at hs1)
      have lw_1 : w.heap.size < w1.heap.size := (by omega)
      have mw_1 : w.heap.size < w1.heap.size + 1 := (by omega)
      have nw_1 : ¬ w.heap.size = w1.heap.size := (by omega)
      have lwp1_1 : w.heap.size + 1 < w1.heap.size := (by omega)
      have mwp1_1 : w.heap.size + 1 < w1.heap.size + 1 := (by omega)
      have nwp1_1 : ¬ w.heap.size + 1 = w1.heap.size := (by omega)
      have ly_1 : w.heap.size + 1 + 1 < w1.heap.size := (by omega)
      have ny_1 : ¬ w.heap.size + 1 + 1 = w1.heap.size := (by omega)
      go_wp2_with fail
      refine (valid_c c d hc hd _).mono ?_
      rintro e w2 ⟨rfl, hb2⟩
      have hc2 := old_cell hb2
      have hf2 := old_frozen hb2
      have hs2 := hb2.size
      (try simp only [World.size_alloc, World.size_setCell, World.size_drew, size_drewN] at hs2)
      have lw_2 : w.heap.size < w2.heap.size := (by omega)
      have mw_2 : w.heap.size < w2.heap.size + 1 := (by omega)
      have nw_2 : ¬ w.heap.size = w2.heap.size := (by omega)
      have lwp1_2 : w.heap.size + 1 < w2.heap.size := (by omega)
      have mwp1_2 : w.heap.size + 1 < w2.heap.size + 1 := (by omega)
      have nwp1_2 : ¬ w.heap.size + 1 = w2.heap.size := (by omega)
      have ly_2 : w.heap.size + 1 + 1 < w2.heap.size := (by omega)
      have ny_2 : ¬ w.heap.size + 1 + 1 = w2.heap.size := (by omega)
      have rc20 : w2.cell? ⟨w.heap.size + 1 + 1, 0, none⟩ = some (.int .i64 0) := by go_simp
      have rc21 : w2.cell? ⟨w.heap.size + 1 + 1, 1, none⟩ = some (.int .i64 0) := by go_simp
      have rf20 : w2.frozen? ⟨w.heap.size + 1 + 1, 0, none⟩ = false := by go_simp
      have rf21 : w2.frozen? ⟨w.heap.size + 1 + 1, 1, none⟩ = false := by go_simp
      go_wp2_with (first | (go_at_call 32; refine (gcd_c _ _ (by omega) (by omega) _).mono ?_; rintro e w' ⟨rfl, ng, rfl⟩))
      go_quiet (fail)
      go_wp2_with fail
      have sA2 : w2.cell? ⟨w.heap.size, 0, none⟩ = some (.int .i64 a) := by go_simp
      have sB2 : w2.cell? ⟨w.heap.size, 1, none⟩ = some (.int .i64 b) := by go_simp
      have sC2 : w2.cell? ⟨w.heap.size + 1, 0, none⟩ = some (.int .i64 c) := by go_simp
      have sD2 : w2.cell? ⟨w.heap.size + 1, 1, none⟩ = some (.int .i64 d) := by go_simp
      have qn1 := cell_drewN_new w2
      have qn2 := frozen_drewN_new w2
      go_upto_region 5 with fail
      go_cut [9] (fun s9 wx => ∃ B : Nat, s9 = .pointer (some ⟨B, 0, none⟩) ∧ wx.cell? ⟨B, 0, none⟩ = some (.int .i64 (RM.hi64 (a * y + c * x))) ∧ wx.cell? ⟨B, 1, none⟩ = some (.int .u64 (RM.lo64 (a * y + c * x))) ∧ wx.frozen? ⟨B, 0, none⟩ = false ∧ wx.frozen? ⟨B, 1, none⟩ = false ∧ w2.heap.size ≤ B ∧ B < wx.heap.size ∧ Below w2.heap.size w2 wx)
      case first =>
        go_region_held3 (fun w' => w'.cell? ⟨w.heap.size, 0, none⟩ = some (.int .i64 a) ∧ w'.cell? ⟨w.heap.size, 1, none⟩ = some (.int .i64 b) ∧ w'.cell? ⟨w.heap.size + 1, 0, none⟩ = some (.int .i64 c) ∧ w'.cell? ⟨w.heap.size + 1, 1, none⟩ = some (.int .i64 d) ∧ w.heap.size < w'.heap.size ∧ w.heap.size + 1 < w'.heap.size ∧ w.heap.size + 1 + 1 < w'.heap.size) ((refine ⟨?_, ?_, ?_, ?_, ?_, ?_, ?_⟩ <;> (first | (with_reducible assumption) | omega | (simp only [World.size_alloc, World.size_setCell, World.size_drew, size_drewN]; omega) | ((repeat (first | (refine Eq.trans (Below.cell (Below.alloc (Below.refl _ _) (Nat.le_refl _) _) ?_) ?_; focus (first | omega | (simp only [World.size_alloc, World.size_setCell, World.size_drew, size_drewN]; omega))) | (refine Eq.trans (Below.cell (Below.setCell (Below.refl _ _) (Nat.le_refl _) _) ?_) ?_; focus (first | omega | (simp only [World.size_alloc, World.size_setCell, World.size_drew, size_drewN]; omega))))); (first | (with_reducible assumption) | assumption))))) (first | (go_at_call_of 37 a; refine (product_c a y ha (by omega) _).mono ?_; rintro e w3 ⟨rfl, hb3⟩; have hc3 := old_cell hb3; have hf3 := old_frozen hb3; have hs3 := hb3.size; (try simp only [World.size_alloc, World.size_setCell, World.size_drew, size_drewN] at hs3); have sA3 : w3.cell? ⟨w.heap.size, 0, none⟩ = some (.int .i64 a) := (hc3 _ _ (by first | omega | (simp only [World.size_alloc, World.size_setCell, World.size_drew, size_drewN]; omega))).trans (by first | assumption | (go_simp; done)); have sB3 : w3.cell? ⟨w.heap.size, 1, none⟩ = some (.int .i64 b) := (hc3 _ _ (by first | omega | (simp only [World.size_alloc, World.size_setCell, World.size_drew, size_drewN]; omega))).trans (by first | assumption | (go_simp; done)); have sC3 : w3.cell? ⟨w.heap.size + 1, 0, none⟩ = some (.int .i64 c) := (hc3 _ _ (by first | omega | (simp only [World.size_alloc, World.size_setCell, World.size_drew, size_drewN]; omega))).trans (by first | assumption | (go_simp; done)); have sD3 : w3.cell? ⟨w.heap.size + 1, 1, none⟩ = some (.int .i64 d) := (hc3 _ _ (by first | omega | (simp only [World.size_alloc, World.size_setCell, World.size_drew, size_drewN]; omega))).trans (by first | assumption | (go_simp; done)); have lq_3 : w2.heap.size ≤ w3.heap.size := (by omega); (try (have la2_3 : w2.heap.size < w3.heap.size := (by omega))); (try (have lb2_3 : ¬ w2.heap.size = w3.heap.size := (by omega)))) | (go_at_call_of 37 c; refine (product_c c x hc (by omega) _).mono ?_; rintro e w4 ⟨rfl, hb4⟩; have hc4 := old_cell hb4; have hf4 := old_frozen hb4; have hs4 := hb4.size; (try simp only [World.size_alloc, World.size_setCell, World.size_drew, size_drewN] at hs4); have sA4 : w4.cell? ⟨w.heap.size, 0, none⟩ = some (.int .i64 a) := (hc4 _ _ (by first | omega | (simp only [World.size_alloc, World.size_setCell, World.size_drew, size_drewN]; omega))).trans (by first | assumption | (go_simp; done)); have sB4 : w4.cell? ⟨w.heap.size, 1, none⟩ = some (.int .i64 b) := (hc4 _ _ (by first | omega | (simp only [World.size_alloc, World.size_setCell, World.size_drew, size_drewN]; omega))).trans (by first | assumption | (go_simp; done)); have sC4 : w4.cell? ⟨w.heap.size + 1, 0, none⟩ = some (.int .i64 c) := (hc4 _ _ (by first | omega | (simp only [World.size_alloc, World.size_setCell, World.size_drew, size_drewN]; omega))).trans (by first | assumption | (go_simp; done)); have sD4 : w4.cell? ⟨w.heap.size + 1, 1, none⟩ = some (.int .i64 d) := (hc4 _ _ (by first | omega | (simp only [World.size_alloc, World.size_setCell, World.size_drew, size_drewN]; omega))).trans (by first | assumption | (go_simp; done)); have lq_4 : w2.heap.size ≤ w4.heap.size := (by omega); (try (have la2_4 : w2.heap.size < w4.heap.size := (by omega))); (try (have la3_4 : w3.heap.size < w4.heap.size := (by omega))); (try (have lb2_4 : ¬ w2.heap.size = w4.heap.size := (by omega))); (try (have lb3_4 : ¬ w3.heap.size = w4.heap.size := (by omega)))) | (go_at_call 38; refine (plus_c _ _ z1 z2 hN _).mono ?_; rintro e w5 ⟨rfl, hb5⟩; have hc5 := old_cell hb5; have hf5 := old_frozen hb5; have hs5 := hb5.size; (try simp only [World.size_alloc, World.size_setCell, World.size_drew, size_drewN] at hs5); have sA5 : w5.cell? ⟨w.heap.size, 0, none⟩ = some (.int .i64 a) := (hc5 _ _ (by first | omega | (simp only [World.size_alloc, World.size_setCell, World.size_drew, size_drewN]; omega))).trans (by first | assumption | (go_simp; done)); have sB5 : w5.cell? ⟨w.heap.size, 1, none⟩ = some (.int .i64 b) := (hc5 _ _ (by first | omega | (simp only [World.size_alloc, World.size_setCell, World.size_drew, size_drewN]; omega))).trans (by first | assumption | (go_simp; done)); have sC5 : w5.cell? ⟨w.heap.size + 1, 0, none⟩ = some (.int .i64 c) := (hc5 _ _ (by first | omega | (simp only [World.size_alloc, World.size_setCell, World.size_drew, size_drewN]; omega))).trans (by first | assumption | (go_simp; done)); have sD5 : w5.cell? ⟨w.heap.size + 1, 1, none⟩ = some (.int .i64 d) := (hc5 _ _ (by first | omega | (simp only [World.size_alloc, World.size_setCell, World.size_drew, size_drewN]; omega))).trans (by first | assumption | (go_simp; done)); have lq_5 : w2.heap.size ≤ w5.heap.size := (by omega); (try (have la2_5 : w2.heap.size < w5.heap.size := (by omega))); (try (have la3_5 : w3.heap.size < w5.heap.size := (by omega))); (try (have la4_5 : w4.heap.size < w5.heap.size := (by omega))); (try (have lb2_5 : ¬ w2.heap.size = w5.heap.size := (by omega))); (try (have lb3_5 : ¬ w3.heap.size = w5.heap.size := (by omega))); (try (have lb4_5 : ¬ w4.heap.size = w5.heap.size := (by omega)))))
        all_goals (go_wp2_with fail; go_meet)
        all_goals (refine ⟨_, rfl, ?_, ?_, ?_, ?_, ?_, ?_, ?_⟩ <;> (first | (go_simp; done) | (first | omega | (simp only [World.size_alloc, World.size_setCell, World.size_drew, size_drewN]; omega)) | (repeat' (first | (with_reducible exact Below.refl _ _) | (with_reducible refine Below.alloc ?_ ?_ _) | (with_reducible refine below_drewN' ?_ _) | (with_reducible refine Below.drew ?_) | (with_reducible refine Below.setCell ?_ ?_ _) | (with_reducible refine Below.trans ?_ (Below.mono (by with_reducible assumption) ?_)) | go_size))))
      case rest =>
        obtain ⟨B, rfl, B0c, B1c, F0c, F1c, LB1, LB2, hbx⟩ := hcut
        have hcc := old_cell hbx
        have hfc := old_frozen hbx
        have hsc := hbx.size
        have sDc : wc.cell? ⟨w.heap.size + 1, 1, none⟩ = some (.int .i64 d) := (hcc _ _ (by first | omega | (simp only [World.size_alloc, World.size_setCell, World.size_drew, size_drewN]; omega))).trans sD2
        have rc0c : wc.cell? ⟨w.heap.size + 1 + 1, 0, none⟩ = some (.int .i64 0) := (hcc _ _ (by first | omega | (simp only [World.size_alloc, World.size_setCell, World.size_drew, size_drewN]; omega))).trans rc20
        have rc1c : wc.cell? ⟨w.heap.size + 1 + 1, 1, none⟩ = some (.int .i64 0) := (hcc _ _ (by first | omega | (simp only [World.size_alloc, World.size_setCell, World.size_drew, size_drewN]; omega))).trans rc21
        have rf0c : wc.frozen? ⟨w.heap.size + 1 + 1, 0, none⟩ = false := (hfc _ _ (by first | omega | (simp only [World.size_alloc, World.size_setCell, World.size_drew, size_drewN]; omega))).trans rf20
        have rf1c : wc.frozen? ⟨w.heap.size + 1 + 1, 1, none⟩ = false := (hfc _ _ (by first | omega | (simp only [World.size_alloc, World.size_setCell, World.size_drew, size_drewN]; omega))).trans rf21
        have zB : w.heap.size + 1 + 1 < B := (by omega)
        have zB2 : ¬ w.heap.size + 1 + 1 = B := (by omega)
        have zB3 : ¬ B = w.heap.size + 1 + 1 := (by omega)
        have zB4 : ¬ w.heap.size + 1 = B := (by omega)
        have zB5 : ¬ B = w.heap.size + 1 := (by omega)
        have hww : Below w.heap.size w wc := by
          (repeat' (first | (with_reducible exact Below.refl _ _) | (with_reducible refine Below.alloc ?_ ?_ _) | (with_reducible refine below_drewN' ?_ _) | (with_reducible refine Below.drew ?_) | (with_reducible refine Below.setCell ?_ ?_ _) | (with_reducible refine Below.trans ?_ (Below.mono (by with_reducible assumption) ?_)) | go_size))
        clear hcc hfc hbx hc1 hf1 hc2 hf2 hb1 hb2 qn1 qn2
        go_wp2_with fail
        refine (divide_c (a * y + c * x) g hN (by omega) _).mono ?_
        rintro e' w6 ⟨rfl, hb6⟩
        have hc6 := old_cell hb6
        have hf6 := old_frozen hb6
        have hs6 := hb6.size
        (try simp only [World.size_alloc, World.size_setCell, World.size_drew, size_drewN] at hs6)
        have sD6 : w6.cell? ⟨w.heap.size + 1, 1, none⟩ = some (.int .i64 d) := (hc6 _ _ (by first | omega | (simp only [World.size_alloc, World.size_setCell, World.size_drew, size_drewN]; omega))).trans sDc
        have rc06 : w6.cell? ⟨w.heap.size + 1 + 1, 0, none⟩ = some (.int .i64 0) := (hc6 _ _ (by first | omega | (simp only [World.size_alloc, World.size_setCell, World.size_drew, size_drewN]; omega))).trans rc0c
        have rc16 : w6.cell? ⟨w.heap.size + 1 + 1, 1, none⟩ = some (.int .i64 0) := (hc6 _ _ (by first | omega | (simp only [World.size_alloc, World.size_setCell, World.size_drew, size_drewN]; omega))).trans rc1c
        have B06 : w6.cell? ⟨B, 0, none⟩ = some (.int .i64 (RM.hi64 (a * y + c * x))) := (hc6 _ _ (by first | omega | (simp only [World.size_alloc, World.size_setCell, World.size_drew, size_drewN]; omega))).trans B0c
        have B16 : w6.cell? ⟨B, 1, none⟩ = some (.int .u64 (RM.lo64 (a * y + c * x))) := (hc6 _ _ (by first | omega | (simp only [World.size_alloc, World.size_setCell, World.size_drew, size_drewN]; omega))).trans B1c
        have rf06 : w6.frozen? ⟨w.heap.size + 1 + 1, 0, none⟩ = false := (hf6 _ _ (by first | omega | (simp only [World.size_alloc, World.size_setCell, World.size_drew, size_drewN]; omega))).trans rf0c
        have rf16 : w6.frozen? ⟨w.heap.size + 1 + 1, 1, none⟩ = false := (hf6 _ _ (by first | omega | (simp only [World.size_alloc, World.size_setCell, World.size_drew, size_drewN]; omega))).trans rf1c
        have F06 : w6.frozen? ⟨B, 0, none⟩ = false := (hf6 _ _ (by first | omega | (simp only [World.size_alloc, World.size_setCell, World.size_drew, size_drewN]; omega))).trans F0c
        have F16 : w6.frozen? ⟨B, 1, none⟩ = false := (hf6 _ _ (by first | omega | (simp only [World.size_alloc, World.size_setCell, World.size_drew, size_drewN]; omega))).trans F1c
        have lW6 : w.heap.size < w6.heap.size := (by omega)
        have lB6 : B < w6.heap.size := (by omega)
        have nB6 : ¬ B = w6.heap.size := (by omega)
        have lR6 : w.heap.size + 1 + 1 < w6.heap.size := (by omega)
        have nR6 : ¬ w.heap.size + 1 + 1 = w6.heap.size := (by omega)
        have lD6 : w.heap.size + 1 < w6.heap.size := (by omega)
        have nD6 : ¬ w.heap.size + 1 = w6.heap.size := (by omega)
        go_wp2_with (first | (go_at_call 32; refine (gcd_c _ _ (by omega) (by omega) _).mono ?_; rintro e' w' ⟨rfl, nh, rfl⟩))
        refine (divide_c (a * y + c * x) e hN (by omega) _).mono ?_
        rintro e' w7 ⟨rfl, hb7⟩
        have hc7 := old_cell hb7
        have hf7 := old_frozen hb7
        have hs7 := hb7.size
        (try simp only [World.size_alloc, World.size_setCell, World.size_drew, size_drewN] at hs7)
        have lW7 : w.heap.size < w7.heap.size := (by omega)
        have lB7 : B < w7.heap.size := (by omega)
        have nB7 : ¬ B = w7.heap.size := (by omega)
        have lR7 : w.heap.size + 1 + 1 < w7.heap.size := (by omega)
        have nR7 : ¬ w.heap.size + 1 + 1 = w7.heap.size := (by omega)
        have lD7 : w.heap.size + 1 < w7.heap.size := (by omega)
        have nD7 : ¬ w.heap.size + 1 = w7.heap.size := (by omega)
        have sD7 : w7.cell? ⟨w.heap.size + 1, 1, none⟩ = some (.int .i64 d) := by go_simp
        have rc07 : w7.cell? ⟨w.heap.size + 1 + 1, 0, none⟩ = some (.int .i64 0) := by go_simp
        have rc17 : w7.cell? ⟨w.heap.size + 1 + 1, 1, none⟩ = some (.int .i64 0) := by go_simp
        have rf07 : w7.frozen? ⟨w.heap.size + 1 + 1, 0, none⟩ = false := by go_simp
        have rf17 : w7.frozen? ⟨w.heap.size + 1 + 1, 1, none⟩ = false := by go_simp
        have F07 : w7.frozen? ⟨B, 0, none⟩ = false := by go_simp
        have F17 : w7.frozen? ⟨B, 1, none⟩ = false := by go_simp
        have B07 : w7.cell? ⟨B, 0, none⟩ = some (.int .i64 (RM.hi64 (a * y + c * x))) := by go_simp
        have B17 : w7.cell? ⟨B, 1, none⟩ = some (.int .u64 (RM.lo64 (a * y + c * x))) := by go_simp
        have hw7 : Below w.heap.size w w7 := by
          (repeat' (first | (with_reducible exact Below.refl _ _) | (with_reducible refine Below.alloc ?_ ?_ _) | (with_reducible refine below_drewN' ?_ _) | (with_reducible refine Below.drew ?_) | (with_reducible refine Below.setCell ?_ ?_ _) | (with_reducible refine Below.trans ?_ (Below.mono (by with_reducible assumption) ?_)) | go_size))
        clear hc7 hf7 hb7 hc6 hf6 hb6 hww
        have E0d : ((w7.setCell ⟨B, 0, none⟩ (.int .i64 (RM.hi64 ((a * y + c * x) / e)))).setCell ⟨B, 1, none⟩ (.int .u64 (RM.lo64 ((a * y + c * x) / e)))).cell? ⟨B, 0, none⟩ = some (.int .i64 (RM.hi64 ((a * y + c * x) / e))) := by go_simp
        have E1d : ((w7.setCell ⟨B, 0, none⟩ (.int .i64 (RM.hi64 ((a * y + c * x) / e)))).setCell ⟨B, 1, none⟩ (.int .u64 (RM.lo64 ((a * y + c * x) / e)))).cell? ⟨B, 1, none⟩ = some (.int .u64 (RM.lo64 ((a * y + c * x) / e))) := by go_simp
        have sDd : ((w7.setCell ⟨B, 0, none⟩ (.int .i64 (RM.hi64 ((a * y + c * x) / e)))).setCell ⟨B, 1, none⟩ (.int .u64 (RM.lo64 ((a * y + c * x) / e)))).cell? ⟨w.heap.size + 1, 1, none⟩ = some (.int .i64 d) := by go_simp
        have rc0d : ((w7.setCell ⟨B, 0, none⟩ (.int .i64 (RM.hi64 ((a * y + c * x) / e)))).setCell ⟨B, 1, none⟩ (.int .u64 (RM.lo64 ((a * y + c * x) / e)))).cell? ⟨w.heap.size + 1 + 1, 0, none⟩ = some (.int .i64 0) := by go_simp
        have rc1d : ((w7.setCell ⟨B, 0, none⟩ (.int .i64 (RM.hi64 ((a * y + c * x) / e)))).setCell ⟨B, 1, none⟩ (.int .u64 (RM.lo64 ((a * y + c * x) / e)))).cell? ⟨w.heap.size + 1 + 1, 1, none⟩ = some (.int .i64 0) := by go_simp
        have rf0d : ((w7.setCell ⟨B, 0, none⟩ (.int .i64 (RM.hi64 ((a * y + c * x) / e)))).setCell ⟨B, 1, none⟩ (.int .u64 (RM.lo64 ((a * y + c * x) / e)))).frozen? ⟨w.heap.size + 1 + 1, 0, none⟩ = false := by go_simp
        have rf1d : ((w7.setCell ⟨B, 0, none⟩ (.int .i64 (RM.hi64 ((a * y + c * x) / e)))).setCell ⟨B, 1, none⟩ (.int .u64 (RM.lo64 ((a * y + c * x) / e)))).frozen? ⟨w.heap.size + 1 + 1, 1, none⟩ = false := by go_simp
        have LBd : B < ((w7.setCell ⟨B, 0, none⟩ (.int .i64 (RM.hi64 ((a * y + c * x) / e)))).setCell ⟨B, 1, none⟩ (.int .u64 (RM.lo64 ((a * y + c * x) / e)))).heap.size := by simp only [World.size_setCell]; omega
        have LRd : w.heap.size + 1 + 1 < ((w7.setCell ⟨B, 0, none⟩ (.int .i64 (RM.hi64 ((a * y + c * x) / e)))).setCell ⟨B, 1, none⟩ (.int .u64 (RM.lo64 ((a * y + c * x) / e)))).heap.size := by simp only [World.size_setCell]; omega
        have hwd : Below w.heap.size w ((w7.setCell ⟨B, 0, none⟩ (.int .i64 (RM.hi64 ((a * y + c * x) / e)))).setCell ⟨B, 1, none⟩ (.int .u64 (RM.lo64 ((a * y + c * x) / e)))) := by
          (repeat' (first | (with_reducible exact Below.refl _ _) | (with_reducible refine Below.alloc ?_ ?_ _) | (with_reducible refine below_drewN' ?_ _) | (with_reducible refine Below.drew ?_) | (with_reducible refine Below.setCell ?_ ?_ _) | (with_reducible refine Below.trans ?_ (Below.mono (by with_reducible assumption) ?_)) | go_size))
        go_wp2_with fail
        generalize ((w7.setCell ⟨B, 0, none⟩ (.int .i64 (RM.hi64 ((a * y + c * x) / e)))).setCell ⟨B, 1, none⟩ (.int .u64 (RM.lo64 ((a * y + c * x) / e)))) = wd at *
        go_region_held3 (fun w' => w'.cell? ⟨B, 0, none⟩ = some (.int .i64 (RM.hi64 ((a * y + c * x) / e))) ∧ w'.cell? ⟨B, 1, none⟩ = some (.int .u64 (RM.lo64 ((a * y + c * x) / e))) ∧ w'.cell? ⟨w.heap.size + 1, 1, none⟩ = some (.int .i64 d)) ((refine ⟨?_, ?_, ?_⟩ <;> (first | (with_reducible assumption) | assumption | (go_simp; done)))) (first | (go_at_call 37; refine (product_c x z (by omega) (by omega) _).mono ?_; rintro e' w8 ⟨rfl, hb8⟩; have hc8 := old_cell hb8; have hf8 := old_frozen hb8; have hs8 := hb8.size; (try simp only [World.size_alloc, World.size_setCell, World.size_drew, size_drewN] at hs8); have lB8 : B < w8.heap.size := (by omega); have lR8 : w.heap.size + 1 + 1 < w8.heap.size := (by omega); have E08 : w8.cell? ⟨B, 0, none⟩ = some (.int .i64 (RM.hi64 ((a * y + c * x) / e))) := (hc8 _ _ (by first | omega | (simp only [World.size_alloc, World.size_setCell, World.size_drew, size_drewN]; omega))).trans E0d; have E18 : w8.cell? ⟨B, 1, none⟩ = some (.int .u64 (RM.lo64 ((a * y + c * x) / e))) := (hc8 _ _ (by first | omega | (simp only [World.size_alloc, World.size_setCell, World.size_drew, size_drewN]; omega))).trans E1d; have sD8 : w8.cell? ⟨w.heap.size + 1, 1, none⟩ = some (.int .i64 d) := (hc8 _ _ (by first | omega | (simp only [World.size_alloc, World.size_setCell, World.size_drew, size_drewN]; omega))).trans sDd; have rc08 : w8.cell? ⟨w.heap.size + 1 + 1, 0, none⟩ = some (.int .i64 0) := (hc8 _ _ (by first | omega | (simp only [World.size_alloc, World.size_setCell, World.size_drew, size_drewN]; omega))).trans rc0d; have rc18 : w8.cell? ⟨w.heap.size + 1 + 1, 1, none⟩ = some (.int .i64 0) := (hc8 _ _ (by first | omega | (simp only [World.size_alloc, World.size_setCell, World.size_drew, size_drewN]; omega))).trans rc1d; have rf08 : w8.frozen? ⟨w.heap.size + 1 + 1, 0, none⟩ = false := (hf8 _ _ (by first | omega | (simp only [World.size_alloc, World.size_setCell, World.size_drew, size_drewN]; omega))).trans rf0d; have rf18 : w8.frozen? ⟨w.heap.size + 1 + 1, 1, none⟩ = false := (hf8 _ _ (by first | omega | (simp only [World.size_alloc, World.size_setCell, World.size_drew, size_drewN]; omega))).trans rf1d) | (go_at_call 40; refine (fit_c _ _ z3 z4 _).mono ?_; rintro e' w9 ⟨rfl, hb9⟩; have hc9 := old_cell hb9; have hf9 := old_frozen hb9; have hs9 := hb9.size; (try simp only [World.size_alloc, World.size_setCell, World.size_drew, size_drewN] at hs9); have lB9 : B < w9.heap.size := (by omega); have lR9 : w.heap.size + 1 + 1 < w9.heap.size := (by omega); have E09 : w9.cell? ⟨B, 0, none⟩ = some (.int .i64 (RM.hi64 ((a * y + c * x) / e))) := (hc9 _ _ (by first | omega | (simp only [World.size_alloc, World.size_setCell, World.size_drew, size_drewN]; omega))).trans E08; have E19 : w9.cell? ⟨B, 1, none⟩ = some (.int .u64 (RM.lo64 ((a * y + c * x) / e))) := (hc9 _ _ (by first | omega | (simp only [World.size_alloc, World.size_setCell, World.size_drew, size_drewN]; omega))).trans E18; have sD9 : w9.cell? ⟨w.heap.size + 1, 1, none⟩ = some (.int .i64 d) := (hc9 _ _ (by first | omega | (simp only [World.size_alloc, World.size_setCell, World.size_drew, size_drewN]; omega))).trans sD8; have rc09 : w9.cell? ⟨w.heap.size + 1 + 1, 0, none⟩ = some (.int .i64 0) := (hc9 _ _ (by first | omega | (simp only [World.size_alloc, World.size_setCell, World.size_drew, size_drewN]; omega))).trans rc08; have rc19 : w9.cell? ⟨w.heap.size + 1 + 1, 1, none⟩ = some (.int .i64 0) := (hc9 _ _ (by first | omega | (simp only [World.size_alloc, World.size_setCell, World.size_drew, size_drewN]; omega))).trans rc18; have rf09 : w9.frozen? ⟨w.heap.size + 1 + 1, 0, none⟩ = false := (hf9 _ _ (by first | omega | (simp only [World.size_alloc, World.size_setCell, World.size_drew, size_drewN]; omega))).trans rf08; have rf19 : w9.frozen? ⟨w.heap.size + 1 + 1, 1, none⟩ = false := (hf9 _ _ (by first | omega | (simp only [World.size_alloc, World.size_setCell, World.size_drew, size_drewN]; omega))).trans rf18))
        go_wp2
        refine bodyPost_ret (v := .tuple #[.agg #[.int .i64 (RM.fitS ((a * y + c * x) / e) (x * z)).1, .int .i64 (RM.fitS ((a * y + c * x) / e) (x * z)).2.1], .int .i64 (RM.fitS ((a * y + c * x) / e) (x * z)).2.2]) (by simp [results, Try.results16, go_sem, *]) rfl ⟨by rw [HE.out], ?_⟩
        (repeat' (first | (with_reducible exact Below.refl _ _) | (with_reducible refine Below.alloc ?_ ?_ _) | (with_reducible refine below_drewN' ?_ _) | (with_reducible refine Below.drew ?_) | (with_reducible refine Below.setCell ?_ ?_ _) | (with_reducible refine Below.trans ?_ (Below.mono (by with_reducible assumption) ?_)) | go_size))
end Go.Proofs.Ytpoiojacpaglcaa
