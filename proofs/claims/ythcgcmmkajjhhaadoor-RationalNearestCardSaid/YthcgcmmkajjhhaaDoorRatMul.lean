/- The code's fit, Mul and Div. -/
import Derived.Test.YthcgcmmkajjhhaaDoorRatE1
import Derived.Test.YthcgcmmkajjhhaaDoorRatAw
namespace Go.Proofs.YthcgcmmkajjhhaaDoor
open Go.RowKit
namespace RM
def fitS (x y : Int) : Int × Int × Int := if narrowB x = true ∧ narrowB y = true ∧ x ≠ -9223372036854775808 then (x, y, 0) else (0, 0, 2)
theorem fit_enc (r : Rat) (x y : Int) (hx : r.num = x) (hy : (r.den : Int) = y) : fitS x y = enc r := by
  have := r.den_pos
  unfold fitS enc
  by_cases h : fits r = true
  · have h2 := h
    simp only [fits, decide_eq_true_eq] at h2
    rw [if_pos h, if_pos (by simp only [narrowB, decide_eq_true_eq]; omega), hx, hy]
  · have h2 := h
    simp only [fits, decide_eq_true_eq] at h2
    rw [if_neg h, if_neg (by simp only [narrowB, decide_eq_true_eq]; omega)]
theorem fit_ok (x y : Int) (h1 : narrowB x = true) (h2 : narrowB y = true) (h3 : ¬ x = -9223372036854775808) : fitS x y = (x, y, 0) := by rw [fitS, if_pos ⟨h1, h2, h3⟩]
theorem fit_no1 (x y : Int) (h : narrowB x = false) : fitS x y = (0, 0, 2) := by rw [fitS, if_neg (by simp [h])]
theorem fit_no2 (x y : Int) (h : narrowB y = false) : fitS x y = (0, 0, 2) := by rw [fitS, if_neg (by simp [h])]
theorem fit_no3 (x y : Int) (h : x = -9223372036854775808) : fitS x y = (0, 0, 2) := by rw [fitS, if_neg (by simp [h])]
theorem mulS_bad1 {a b c d : Int} (h : ok a b = false) : mulS a b c d = (0, 0, 1) := by simp [mulS, h]
theorem mulS_bad2 {a b c d : Int} (h : ok c d = false) : mulS a b c d = (0, 0, 1) := by simp [mulS, h]
/-- exact division by a divisor -/
theorem exact_div (n : Int) (g : Nat) (hg : g ∣ n.natAbs) (h0 : 1 ≤ (g : Int)) (hn : -9223372036854775808 ≤ n ∧ n ≤ 9223372036854775807) :
    n.tdiv g = n / g ∧ -9223372036854775808 ≤ n / g ∧ n / g ≤ 9223372036854775807 := by
  have hd : (g : Int) ∣ n := by rw [← Int.dvd_natAbs]; exact Int.natCast_dvd_natCast.2 hg
  have e := ediv_facts n g h0 hn
  refine ⟨?_, e.2.2.1, e.2.2.2.1⟩
  rw [Int.tdiv_eq_ediv_of_dvd hd]
theorem mul_facts {a b c d : Int} (h1 : ok a b = true) (h2 : ok c d = true) (ha : a ≤ 9223372036854775807) (hc : c ≤ 9223372036854775807) (hb : b ≤ 9223372036854775807) (hd : d ≤ 9223372036854775807) :
    ∃ g1 g2 : Int, ((Nat.gcd a.natAbs d.natAbs : Nat) : Int) = g1 ∧ ((Nat.gcd c.natAbs b.natAbs : Nat) : Int) = g2 ∧ 1 ≤ (g1 : Int) ∧ (g1 : Int) ≤ 9223372036854775807 ∧ 1 ≤ (g2 : Int) ∧ (g2 : Int) ≤ 9223372036854775807
    ∧ a.tdiv g1 = a / g1 ∧ -9223372036854775808 ≤ a / g1 ∧ a / g1 ≤ 9223372036854775807 ∧ c.tdiv g2 = c / g2 ∧ -9223372036854775808 ≤ c / g2 ∧ c / g2 ≤ 9223372036854775807
    ∧ 1 ≤ b / (g2 : Int) ∧ b / (g2 : Int) ≤ 9223372036854775807 ∧ 1 ≤ d / (g1 : Int) ∧ d / (g1 : Int) ≤ 9223372036854775807
    ∧ fitS (a / g1 * (c / g2)) (b / g2 * (d / g1)) = mulS a b c d := by
  obtain ⟨p1, p2, _⟩ := ok_parts h1
  obtain ⟨p3, p4, _⟩ := ok_parts h2
  have k1 : 0 < Nat.gcd a.natAbs d.natAbs := Nat.gcd_pos_of_pos_right _ (by omega)
  have k2 : 0 < Nat.gcd c.natAbs b.natAbs := Nat.gcd_pos_of_pos_right _ (by omega)
  have l1 : Nat.gcd a.natAbs d.natAbs ≤ d.natAbs := Nat.gcd_le_right _ (by omega)
  have l2 : Nat.gcd c.natAbs b.natAbs ≤ b.natAbs := Nat.gcd_le_right _ (by omega)
  have e1 := exact_div a _ (Nat.gcd_dvd_left a.natAbs d.natAbs) (by omega) (by omega)
  have e2 := exact_div c _ (Nat.gcd_dvd_left c.natAbs b.natAbs) (by omega) (by omega)
  have m1 : 1 ≤ b / ((Nat.gcd c.natAbs b.natAbs : Nat) : Int) := by rw [Int.le_ediv_iff_mul_le (by omega)]; omega
  have m2 : 1 ≤ d / ((Nat.gcd a.natAbs d.natAbs : Nat) : Int) := by rw [Int.le_ediv_iff_mul_le (by omega)]; omega
  have n1 : b / ((Nat.gcd c.natAbs b.natAbs : Nat) : Int) ≤ b := Int.ediv_le_self _ (by omega)
  have n2 : d / ((Nat.gcd a.natAbs d.natAbs : Nat) : Int) ≤ d := Int.ediv_le_self _ (by omega)
  have mp := mul_parts (q a b) (q c d)
  have qb := q_den h1
  have qd := q_den h2
  have eb : (q a b).den = b.natAbs := by omega
  have ed : (q c d).den = d.natAbs := by omega
  rw [q_num h1, q_num h2, eb, ed] at mp
  refine ⟨_, _, rfl, rfl, by omega, by omega, by omega, by omega, e1.1, e1.2.1, e1.2.2, e2.1, e2.2.1, e2.2.2, m1, by omega, m2, by omega, ?_⟩
  rw [mulS, if_pos ⟨h1, h2⟩]
  refine fit_enc _ _ _ mp.1 ?_
  rw [mp.2, Int.natCast_mul, Int.natCast_ediv, Int.natCast_ediv]
  rw [show ((b.natAbs : Nat) : Int) = b by omega, show ((d.natAbs : Nat) : Int) = d by omega]
end RM

set_option linter.unusedSimpArgs false in
set_option linter.unusedVariables false in
set_option maxHeartbeats 1000000 in
theorem fit_c (x y : Int) (hx : -9223372036854775808 ≤ RM.hi64 x ∧ RM.hi64 x ≤ 9223372036854775807) (hy : -9223372036854775808 ≤ RM.hi64 y ∧ RM.hi64 y ≤ 9223372036854775807) (w : World) :
    Calls Tryd.prog 71 #[.agg #[.int .i64 (RM.hi64 (x)), .int .u64 (RM.lo64 (x))], .agg #[.int .i64 (RM.hi64 (y)), .int .u64 (RM.lo64 (y))]] w fun e w' => e = .returned (.tuple #[.agg #[.int .i64 (RM.fitS x y).1, .int .i64 (RM.fitS x y).2.1], .int .i64 (RM.fitS x y).2.2]) ∧ Below w.heap.size w w' := by
  cases b1 : RM.narrowB x
  · have HE := Lib.hid (RM.fit_no1 x y b1)
    go_enter Tryd.func71, Tryd.ntmps71
    go_wp2_with fail
    refine (narrow_c x hx _).mono ?_
    rintro e w1 ⟨rfl, hb1⟩
    have hc1 := old_cell hb1
    have hf1 := old_frozen hb1
    have hs1 := hb1.size
    (try simp only [World.size_alloc, World.size_setCell, World.size_drew, size_drewN] at hs1)
    have lw_1 : w.heap.size < w1.heap.size := (by omega)
    have mw_1 : w.heap.size < w1.heap.size + 1 := (by omega)
    have nw_1 : ¬ w.heap.size = w1.heap.size := (by omega)
    have lwp1_1 : w.heap.size + 1 < w1.heap.size := (by omega)
    have mwp1_1 : w.heap.size + 1 < w1.heap.size + 1 := (by omega)
    have nwp1_1 : ¬ w.heap.size + 1 = w1.heap.size := (by omega)
    have lwp2_1 : w.heap.size + 2 < w1.heap.size := (by omega)
    have mwp2_1 : w.heap.size + 2 < w1.heap.size + 1 := (by omega)
    have nwp2_1 : ¬ w.heap.size + 2 = w1.heap.size := (by omega)
    go_wp2_with fail
    refine (narrow_c y hy _).mono ?_
    rintro e w2 ⟨rfl, hb2⟩
    have hc2 := old_cell hb2
    have hf2 := old_frozen hb2
    have hs2 := hb2.size
    (try simp only [World.size_alloc, World.size_setCell, World.size_drew, size_drewN] at hs2)
    have lw_2 : w.heap.size < w2.heap.size := (by omega)
    have mw_2 : w.heap.size < w2.heap.size + 1 := (by omega)
    have nw_2 : ¬ w.heap.size = w2.heap.size := (by omega)
    have lwp1_2 : w.heap.size + 1 < w2.heap.size := (by omega)
    have mwp1_2 : w.heap.size + 1 < w2.heap.size + 1 := (by omega)
    have nwp1_2 : ¬ w.heap.size + 1 = w2.heap.size := (by omega)
    have lwp2_2 : w.heap.size + 2 < w2.heap.size := (by omega)
    have mwp2_2 : w.heap.size + 2 < w2.heap.size + 1 := (by omega)
    have nwp2_2 : ¬ w.heap.size + 2 = w2.heap.size := (by omega)
    go_wp2
    refine bodyPost_ret (v := .tuple #[.agg #[.int .i64 0, .int .i64 0], .int .i64 2]) (by simp [results, Tryd.results71, go_sem, *]) rfl ⟨ret_rat HE.out, ?_⟩
    (repeat' (first | (with_reducible exact Below.refl _ _) | (with_reducible refine Below.alloc ?_ ?_ _) | (with_reducible refine below_drewN' ?_ _) | (with_reducible refine Below.drew ?_) | (with_reducible refine Below.setCell ?_ ?_ _) | (with_reducible refine Below.trans ?_ (Below.mono (by with_reducible assumption) ?_)) | go_size))
  · have v1 : RM.narrowV x = x := by rw [RM.narrowV, if_pos b1]
    cases b2 : RM.narrowB y
    · have HE := Lib.hid (RM.fit_no2 x y b2)
      go_enter Tryd.func71, Tryd.ntmps71
      go_wp2_with fail
      refine (narrow_c x hx _).mono ?_
      rintro e w1 ⟨rfl, hb1⟩
      have hc1 := old_cell hb1
      have hf1 := old_frozen hb1
      have hs1 := hb1.size
      (try simp only [World.size_alloc, World.size_setCell, World.size_drew, size_drewN] at hs1)
      have lw_1 : w.heap.size < w1.heap.size := (by omega)
      have mw_1 : w.heap.size < w1.heap.size + 1 := (by omega)
      have nw_1 : ¬ w.heap.size = w1.heap.size := (by omega)
      have lwp1_1 : w.heap.size + 1 < w1.heap.size := (by omega)
      have mwp1_1 : w.heap.size + 1 < w1.heap.size + 1 := (by omega)
      have nwp1_1 : ¬ w.heap.size + 1 = w1.heap.size := (by omega)
      have lwp2_1 : w.heap.size + 2 < w1.heap.size := (by omega)
      have mwp2_1 : w.heap.size + 2 < w1.heap.size + 1 := (by omega)
      have nwp2_1 : ¬ w.heap.size + 2 = w1.heap.size := (by omega)
      go_wp2_with fail
      refine (narrow_c y hy _).mono ?_
      rintro e w2 ⟨rfl, hb2⟩
      have hc2 := old_cell hb2
      have hf2 := old_frozen hb2
      have hs2 := hb2.size
      (try simp only [World.size_alloc, World.size_setCell, World.size_drew, size_drewN] at hs2)
      have lw_2 : w.heap.size < w2.heap.size := (by omega)
      have mw_2 : w.heap.size < w2.heap.size + 1 := (by omega)
      have nw_2 : ¬ w.heap.size = w2.heap.size := (by omega)
      have lwp1_2 : w.heap.size + 1 < w2.heap.size := (by omega)
      have mwp1_2 : w.heap.size + 1 < w2.heap.size + 1 := (by omega)
      have nwp1_2 : ¬ w.heap.size + 1 = w2.heap.size := (by omega)
      have lwp2_2 : w.heap.size + 2 < w2.heap.size := (by omega)
      have mwp2_2 : w.heap.size + 2 < w2.heap.size + 1 := (by omega)
      have nwp2_2 : ¬ w.heap.size + 2 = w2.heap.size := (by omega)
      go_wp2
      refine bodyPost_ret (v := .tuple #[.agg #[.int .i64 0, .int .i64 0], .int .i64 2]) (by simp [results, Tryd.results71, go_sem, *]) rfl ⟨ret_rat HE.out, ?_⟩
      (repeat' (first | (with_reducible exact Below.refl _ _) | (with_reducible refine Below.alloc ?_ ?_ _) | (with_reducible refine below_drewN' ?_ _) | (with_reducible refine Below.drew ?_) | (with_reducible refine Below.setCell ?_ ?_ _) | (with_reducible refine Below.trans ?_ (Below.mono (by with_reducible assumption) ?_)) | go_size))
    · have v2 : RM.narrowV y = y := by rw [RM.narrowV, if_pos b2]
      by_cases b3 : x = -9223372036854775808
      · have HE := Lib.hid (RM.fit_no3 x y b3)
        have d3 : (x == -9223372036854775808) = true := by simpa using b3
        clear b3
        go_enter Tryd.func71, Tryd.ntmps71
        go_wp2_with fail
        refine (narrow_c x hx _).mono ?_
        rintro e w1 ⟨rfl, hb1⟩
        have hc1 := old_cell hb1
        have hf1 := old_frozen hb1
        have hs1 := hb1.size
        (try simp only [World.size_alloc, World.size_setCell, World.size_drew, size_drewN] at hs1)
        have lw_1 : w.heap.size < w1.heap.size := (by omega)
        have mw_1 : w.heap.size < w1.heap.size + 1 := (by omega)
        have nw_1 : ¬ w.heap.size = w1.heap.size := (by omega)
        have lwp1_1 : w.heap.size + 1 < w1.heap.size := (by omega)
        have mwp1_1 : w.heap.size + 1 < w1.heap.size + 1 := (by omega)
        have nwp1_1 : ¬ w.heap.size + 1 = w1.heap.size := (by omega)
        have lwp2_1 : w.heap.size + 2 < w1.heap.size := (by omega)
        have mwp2_1 : w.heap.size + 2 < w1.heap.size + 1 := (by omega)
        have nwp2_1 : ¬ w.heap.size + 2 = w1.heap.size := (by omega)
        go_wp2_with fail
        refine (narrow_c y hy _).mono ?_
        rintro e w2 ⟨rfl, hb2⟩
        have hc2 := old_cell hb2
        have hf2 := old_frozen hb2
        have hs2 := hb2.size
        (try simp only [World.size_alloc, World.size_setCell, World.size_drew, size_drewN] at hs2)
        have lw_2 : w.heap.size < w2.heap.size := (by omega)
        have mw_2 : w.heap.size < w2.heap.size + 1 := (by omega)
        have nw_2 : ¬ w.heap.size = w2.heap.size := (by omega)
        have lwp1_2 : w.heap.size + 1 < w2.heap.size := (by omega)
        have mwp1_2 : w.heap.size + 1 < w2.heap.size + 1 := (by omega)
        have nwp1_2 : ¬ w.heap.size + 1 = w2.heap.size := (by omega)
        have lwp2_2 : w.heap.size + 2 < w2.heap.size := (by omega)
        have mwp2_2 : w.heap.size + 2 < w2.heap.size + 1 := (by omega)
        have nwp2_2 : ¬ w.heap.size + 2 = w2.heap.size := (by omega)
        go_wp2
        refine bodyPost_ret (v := .tuple #[.agg #[.int .i64 0, .int .i64 0], .int .i64 2]) (by simp [results, Tryd.results71, go_sem, *]) rfl ⟨ret_rat HE.out, ?_⟩
        (repeat' (first | (with_reducible exact Below.refl _ _) | (with_reducible refine Below.alloc ?_ ?_ _) | (with_reducible refine below_drewN' ?_ _) | (with_reducible refine Below.drew ?_) | (with_reducible refine Below.setCell ?_ ?_ _) | (with_reducible refine Below.trans ?_ (Below.mono (by with_reducible assumption) ?_)) | go_size))
      · have HE := Lib.hid (RM.fit_ok x y b1 b2 b3)
        have d3 : (x == -9223372036854775808) = false := by simpa using b3
        go_enter Tryd.func71, Tryd.ntmps71
        go_wp2_with fail
        refine (narrow_c x hx _).mono ?_
        rintro e w1 ⟨rfl, hb1⟩
        have hc1 := old_cell hb1
        have hf1 := old_frozen hb1
        have hs1 := hb1.size
        (try simp only [World.size_alloc, World.size_setCell, World.size_drew, size_drewN] at hs1)
        have lw_1 : w.heap.size < w1.heap.size := (by omega)
        have mw_1 : w.heap.size < w1.heap.size + 1 := (by omega)
        have nw_1 : ¬ w.heap.size = w1.heap.size := (by omega)
        have lwp1_1 : w.heap.size + 1 < w1.heap.size := (by omega)
        have mwp1_1 : w.heap.size + 1 < w1.heap.size + 1 := (by omega)
        have nwp1_1 : ¬ w.heap.size + 1 = w1.heap.size := (by omega)
        have lwp2_1 : w.heap.size + 2 < w1.heap.size := (by omega)
        have mwp2_1 : w.heap.size + 2 < w1.heap.size + 1 := (by omega)
        have nwp2_1 : ¬ w.heap.size + 2 = w1.heap.size := (by omega)
        go_wp2_with fail
        refine (narrow_c y hy _).mono ?_
        rintro e w2 ⟨rfl, hb2⟩
        have hc2 := old_cell hb2
        have hf2 := old_frozen hb2
        have hs2 := hb2.size
        (try simp only [World.size_alloc, World.size_setCell, World.size_drew, size_drewN] at hs2)
        have lw_2 : w.heap.size < w2.heap.size := (by omega)
        have mw_2 : w.heap.size < w2.heap.size + 1 := (by omega)
        have nw_2 : ¬ w.heap.size = w2.heap.size := (by omega)
        have lwp1_2 : w.heap.size + 1 < w2.heap.size := (by omega)
        have mwp1_2 : w.heap.size + 1 < w2.heap.size + 1 := (by omega)
        have nwp1_2 : ¬ w.heap.size + 1 = w2.heap.size := (by omega)
        have lwp2_2 : w.heap.size + 2 < w2.heap.size := (by omega)
        have mwp2_2 : w.heap.size + 2 < w2.heap.size + 1 := (by omega)
        have nwp2_2 : ¬ w.heap.size + 2 = w2.heap.size := (by omega)
        go_wp2
        refine bodyPost_ret (v := .tuple #[.agg #[.int .i64 x, .int .i64 y], .int .i64 0]) (by simp [results, Tryd.results71, go_sem, *]) rfl ⟨ret_rat HE.out, ?_⟩
        (repeat' (first | (with_reducible exact Below.refl _ _) | (with_reducible refine Below.alloc ?_ ?_ _) | (with_reducible refine below_drewN' ?_ _) | (with_reducible refine Below.drew ?_) | (with_reducible refine Below.setCell ?_ ?_ _) | (with_reducible refine Below.trans ?_ (Below.mono (by with_reducible assumption) ?_)) | go_size))

theorem gcd_again {P : Program} {f : FuncId} {args : Array Value} {V : World} {j k : Nat} {x : Value}
    (c : Calls P f args (V.drewN (j + k)) fun e U => e = .returned x ∧ ∃ n, U = (V.drewN (j + k)).drewN n) : Calls P f args (V.drewN (j + k)) fun e U => e = .returned x ∧ ∃ m, U = V.drewN (j + m) :=
  c.mono (by rintro e U ⟨he, n, rfl⟩; exact ⟨he, k + n, by rw [World.drewN_drewN, Nat.add_assoc]⟩)

set_option linter.unusedSimpArgs false in
set_option linter.unusedVariables false in
set_option maxHeartbeats 4000000 in
theorem Mul_c (a b c d : Int) (ha : -9223372036854775808 ≤ a ∧ a ≤ 9223372036854775807) (hb : -9223372036854775808 ≤ b ∧ b ≤ 9223372036854775807) (hc : -9223372036854775808 ≤ c ∧ c ≤ 9223372036854775807) (hd : -9223372036854775808 ≤ d ∧ d ≤ 9223372036854775807) (w : World) :
    Calls Tryd.prog 59 #[.agg #[.int .i64 a, .int .i64 b], .agg #[.int .i64 c, .int .i64 d]] w fun e w' => e = .returned (.tuple #[.agg #[.int .i64 (RM.mulS a b c d).1, .int .i64 (RM.mulS a b c d).2.1], .int .i64 (RM.mulS a b c d).2.2]) ∧ Below w.heap.size w w' := by
  cases k1 : RM.ok a b
  · have HE := Lib.hid (RM.mulS_bad1 (c := c) (d := d) k1)
    go_enter Tryd.func59, Tryd.ntmps59
    go_wp2_with fail
    refine (valid_c a b ha hb _).mono ?_
    rintro e w1 ⟨rfl, hb1⟩
    have hc1 := old_cell hb1
    have hf1 := old_frozen hb1
    have hs1 := hb1.size
    (try simp only [World.size_alloc, World.size_setCell, World.size_drew, size_drewN] at hs1)
    have lw_1 : w.heap.size < w1.heap.size := (by omega)
    have mw_1 : w.heap.size < w1.heap.size + 1 := (by omega)
    have nw_1 : ¬ w.heap.size = w1.heap.size := (by omega)
    have lwp1_1 : w.heap.size + 1 < w1.heap.size := (by omega)
    have mwp1_1 : w.heap.size + 1 < w1.heap.size + 1 := (by omega)
    have nwp1_1 : ¬ w.heap.size + 1 = w1.heap.size := (by omega)
    have ly_1 : w.heap.size + 1 + 1 < w1.heap.size := (by omega)
    have ny_1 : ¬ w.heap.size + 1 + 1 = w1.heap.size := (by omega)
    go_wp2
    refine bodyPost_ret (v := .tuple #[.agg #[.int .i64 0, .int .i64 0], .int .i64 1]) (by simp [results, Tryd.results59, go_sem, *]) rfl ⟨ret_rat HE.out, ?_⟩
    (repeat' (first | (with_reducible exact Below.refl _ _) | (with_reducible refine Below.alloc ?_ ?_ _) | (with_reducible refine below_drewN' ?_ _) | (with_reducible refine Below.drew ?_) | (with_reducible refine Below.setCell ?_ ?_ _) | (with_reducible refine Below.trans ?_ (Below.mono (by with_reducible assumption) ?_)) | go_size))
  · cases k2 : RM.ok c d
    · have HE := Lib.hid (RM.mulS_bad2 (a := a) (b := b) k2)
      go_enter Tryd.func59, Tryd.ntmps59
      go_wp2_with fail
      refine (valid_c a b ha hb _).mono ?_
      rintro e w1 ⟨rfl, hb1⟩
      have hc1 := old_cell hb1
      have hf1 := old_frozen hb1
      have hs1 := hb1.size
      (try simp only [World.size_alloc, World.size_setCell, World.size_drew, size_drewN] at hs1)
      have lw_1 : w.heap.size < w1.heap.size := (by omega)
      have mw_1 : w.heap.size < w1.heap.size + 1 := (by omega)
      have nw_1 : ¬ w.heap.size = w1.heap.size := (by omega)
      have lwp1_1 : w.heap.size + 1 < w1.heap.size := (by omega)
      have mwp1_1 : w.heap.size + 1 < w1.heap.size + 1 := (by omega)
      have nwp1_1 : ¬ w.heap.size + 1 = w1.heap.size := (by omega)
      have ly_1 : w.heap.size + 1 + 1 < w1.heap.size := (by omega)
      have ny_1 : ¬ w.heap.size + 1 + 1 = w1.heap.size := (by omega)
      go_wp2_with fail
      refine (valid_c c d hc hd _).mono ?_
      rintro e w2 ⟨rfl, hb2⟩
      have hc2 := old_cell hb2
      have hf2 := old_frozen hb2
      have hs2 := hb2.size
      (try simp only [World.size_alloc, World.size_setCell, World.size_drew, size_drewN] at hs2)
      have lw_2 : w.heap.size < w2.heap.size := (by omega)
      have mw_2 : w.heap.size < w2.heap.size + 1 := (by omega)
      have nw_2 : ¬ w.heap.size = w2.heap.size := (by omega)
      have lwp1_2 : w.heap.size + 1 < w2.heap.size := (by omega)
      have mwp1_2 : w.heap.size + 1 < w2.heap.size + 1 := (by omega)
      have nwp1_2 : ¬ w.heap.size + 1 = w2.heap.size := (by omega)
      have ly_2 : w.heap.size + 1 + 1 < w2.heap.size := (by omega)
      have ny_2 : ¬ w.heap.size + 1 + 1 = w2.heap.size := (by omega)
      go_wp2
      refine bodyPost_ret (v := .tuple #[.agg #[.int .i64 0, .int .i64 0], .int .i64 1]) (by simp [results, Tryd.results59, go_sem, *]) rfl ⟨ret_rat HE.out, ?_⟩
      (repeat' (first | (with_reducible exact Below.refl _ _) | (with_reducible refine Below.alloc ?_ ?_ _) | (with_reducible refine below_drewN' ?_ _) | (with_reducible refine Below.drew ?_) | (with_reducible refine Below.setCell ?_ ?_ _) | (with_reducible refine Below.trans ?_ (Below.mono (by with_reducible assumption) ?_)) | go_size))
    · obtain ⟨g1, g2, hg1, hg2, x1, x2, x3, x4, t1, t2, t3, t4, t5, t6, y1, y2, y3, y4, hE⟩ := RM.mul_facts k1 k2 ha.2 hc.2 hb.2 hd.2
      obtain ⟨v1, v2, _⟩ := RM.ok_parts k1
      obtain ⟨v3, v4, _⟩ := RM.ok_parts k2
      have HE := Lib.hid hE
      clear hE
      have z1 := RM.prod_bd128 (a / (g1 : Int)) (c / (g2 : Int)) (by omega) (by omega)
      have z2 := RM.prod_bd128 (b / (g2 : Int)) (d / (g1 : Int)) (by omega) (by omega)
      have w1' := IntWalk.u64_in b (by omega)
      have w2' := IntWalk.u64_in d (by omega)
      have w3' := IntWalk.i64_in (a / (g1 : Int)) (by omega)
      have w4' := IntWalk.i64_in (c / (g2 : Int)) (by omega)
      have w5' := IntWalk.i64_in (b / (g2 : Int)) (by omega)
      have w6' := IntWalk.i64_in (d / (g1 : Int)) (by omega)
      have w7' := IntWalk.i64_in (g1 : Int) (by omega)
      have w8' := IntWalk.i64_in (g2 : Int) (by omega)
      have t7 := Int.tdiv_eq_ediv_of_nonneg (a := b) (b := g2) (by omega)
      have t8 := Int.tdiv_eq_ediv_of_nonneg (a := d) (b := g1) (by omega)
      have n1' : ¬ (g1 : Int) = 0 := by omega
      have n2' : ¬ (g2 : Int) = 0 := by omega
      go_enter Tryd.func59, Tryd.ntmps59
      go_wp2_with fail
      refine (valid_c a b ha hb _).mono ?_
      rintro e w1 ⟨rfl, hb1⟩
      have hc1 := old_cell hb1
      have hf1 := old_frozen hb1
      have hs1 := hb1.size
      (try simp only [World.size_alloc, World.size_setCell, World.size_drew, size_drewN] at hs1)
      have lw_1 : w.heap.size < w1.heap.size := (by omega)
      have mw_1 : w.heap.size < w1.heap.size + 1 := (by omega)
      have nw_1 : ¬ w.heap.size = w1.heap.size := (by omega)
      have lwp1_1 : w.heap.size + 1 < w1.heap.size := (by omega)
      have mwp1_1 : w.heap.size + 1 < w1.heap.size + 1 := (by omega)
      have nwp1_1 : ¬ w.heap.size + 1 = w1.heap.size := (by omega)
      have ly_1 : w.heap.size + 1 + 1 < w1.heap.size := (by omega)
      have ny_1 : ¬ w.heap.size + 1 + 1 = w1.heap.size := (by omega)
      go_wp2_with fail
      refine (valid_c c d hc hd _).mono ?_
      rintro e w2 ⟨rfl, hb2⟩
      have hc2 := old_cell hb2
      have hf2 := old_frozen hb2
      have hs2 := hb2.size
      (try simp only [World.size_alloc, World.size_setCell, World.size_drew, size_drewN] at hs2)
      have lw_2 : w.heap.size < w2.heap.size := (by omega)
      have mw_2 : w.heap.size < w2.heap.size + 1 := (by omega)
      have nw_2 : ¬ w.heap.size = w2.heap.size := (by omega)
      have lwp1_2 : w.heap.size + 1 < w2.heap.size := (by omega)
      have mwp1_2 : w.heap.size + 1 < w2.heap.size + 1 := (by omega)
      have nwp1_2 : ¬ w.heap.size + 1 = w2.heap.size := (by omega)
      have ly_2 : w.heap.size + 1 + 1 < w2.heap.size := (by omega)
      have ny_2 : ¬ w.heap.size + 1 + 1 = w2.heap.size := (by omega)
      go_wp2_with fail
      go_quiet ((first | (go_at_call 53; exact Calls.quiet_of_same ((mag_c _ (by omega) _).mono fun _ _ h => ⟨h.1, h.2.symm⟩)) | (go_at_call 52; exact Calls.quiet_of (gcd_c _ _ (by omega) (by omega) _))))
      go_wp2_with fail
      go_quiet ((first | (go_at_call 53; exact calls_again (mag_c _ (by omega) _)) | (go_at_call 52; exact gcd_again (gcd_c _ _ (by omega) (by omega) _))))
      go_wp2_with fail
      have rc20 : w2.cell? ⟨w.heap.size + 1 + 1, 0, none⟩ = some (.int .i64 0) := by go_simp
      have rc21 : w2.cell? ⟨w.heap.size + 1 + 1, 1, none⟩ = some (.int .i64 0) := by go_simp
      have rf20 : w2.frozen? ⟨w.heap.size + 1 + 1, 0, none⟩ = false := by go_simp
      have rf21 : w2.frozen? ⟨w.heap.size + 1 + 1, 1, none⟩ = false := by go_simp
      go_region_held3 (fun w' => w'.cell? ⟨w.heap.size, 0, none⟩ = some (.int .i64 a) ∧ w'.cell? ⟨w.heap.size, 1, none⟩ = some (.int .i64 b) ∧ w'.cell? ⟨w.heap.size + 1, 0, none⟩ = some (.int .i64 c) ∧ w'.cell? ⟨w.heap.size + 1, 1, none⟩ = some (.int .i64 d) ∧ w.heap.size < w'.heap.size ∧ w.heap.size + 1 < w'.heap.size ∧ w.heap.size + 1 + 1 < w'.heap.size) ((go_split_ands; refine ⟨?_, ?_, ?_, ?_, ?_, ?_, ?_⟩ <;> (first | (with_reducible assumption) | omega | (simp only [World.size_alloc, World.size_setCell, World.size_drew, size_drewN]; omega) | ((repeat (first | (refine Eq.trans (Below.cell (Below.alloc (Below.refl _ _) (Nat.le_refl _) _) ?_) ?_; focus (first | omega | (simp only [World.size_alloc, World.size_setCell, World.size_drew, size_drewN]; omega))) | (refine Eq.trans (Below.cell (Below.setCell (Below.refl _ _) (Nat.le_refl _) _) ?_) ?_; focus (first | omega | (simp only [World.size_alloc, World.size_setCell, World.size_drew, size_drewN]; omega))))); with_reducible assumption) | (rw [hc5 _ _ (by (first | omega | (simp only [World.size_alloc, World.size_setCell, World.size_drew, size_drewN]; omega)))]; (first | (with_reducible assumption) | (go_simp; done))) | (rw [hc4 _ _ (by (first | omega | (simp only [World.size_alloc, World.size_setCell, World.size_drew, size_drewN]; omega)))]; (first | (with_reducible assumption) | (go_simp; done))) | (rw [hc3 _ _ (by (first | omega | (simp only [World.size_alloc, World.size_setCell, World.size_drew, size_drewN]; omega)))]; (first | (with_reducible assumption) | (go_simp; done))) | (go_simp; done) | go_keep))) (first | (go_at_call_of 43 a; refine (product_c _ _ (by omega) (by omega) _).mono ?_; rintro e w3 ⟨rfl, hb3⟩; have hc3 := old_cell hb3; have hf3 := old_frozen hb3; have hs3 := hb3.size; (try simp only [World.size_alloc, World.size_setCell, World.size_drew, size_drewN] at hs3); have lw_3 : w.heap.size < w3.heap.size := (by omega); have mw_3 : w.heap.size < w3.heap.size + 1 := (by omega); have nw_3 : ¬ w.heap.size = w3.heap.size := (by omega); have lwp1_3 : w.heap.size + 1 < w3.heap.size := (by omega); have mwp1_3 : w.heap.size + 1 < w3.heap.size + 1 := (by omega); have nwp1_3 : ¬ w.heap.size + 1 = w3.heap.size := (by omega); have ly_3 : w.heap.size + 1 + 1 < w3.heap.size := (by omega); have ny_3 : ¬ w.heap.size + 1 + 1 = w3.heap.size := (by omega); have rc30 : w3.cell? ⟨w.heap.size + 1 + 1, 0, none⟩ = some (.int .i64 0) := (hc3 _ _ (by first | omega | (simp only [World.size_alloc, World.size_setCell, World.size_drew, size_drewN]; omega))).trans rc20; have rc31 : w3.cell? ⟨w.heap.size + 1 + 1, 1, none⟩ = some (.int .i64 0) := (hc3 _ _ (by first | omega | (simp only [World.size_alloc, World.size_setCell, World.size_drew, size_drewN]; omega))).trans rc21; have rf30 : w3.frozen? ⟨w.heap.size + 1 + 1, 0, none⟩ = false := (hf3 _ _ (by first | omega | (simp only [World.size_alloc, World.size_setCell, World.size_drew, size_drewN]; omega))).trans rf20; have rf31 : w3.frozen? ⟨w.heap.size + 1 + 1, 1, none⟩ = false := (hf3 _ _ (by first | omega | (simp only [World.size_alloc, World.size_setCell, World.size_drew, size_drewN]; omega))).trans rf21) | (go_at_call_of 43 b; refine (product_c _ _ (by omega) (by omega) _).mono ?_; rintro e w4 ⟨rfl, hb4⟩; have hc4 := old_cell hb4; have hf4 := old_frozen hb4; have hs4 := hb4.size; (try simp only [World.size_alloc, World.size_setCell, World.size_drew, size_drewN] at hs4); have lw_4 : w.heap.size < w4.heap.size := (by omega); have mw_4 : w.heap.size < w4.heap.size + 1 := (by omega); have nw_4 : ¬ w.heap.size = w4.heap.size := (by omega); have lwp1_4 : w.heap.size + 1 < w4.heap.size := (by omega); have mwp1_4 : w.heap.size + 1 < w4.heap.size + 1 := (by omega); have nwp1_4 : ¬ w.heap.size + 1 = w4.heap.size := (by omega); have ly_4 : w.heap.size + 1 + 1 < w4.heap.size := (by omega); have ny_4 : ¬ w.heap.size + 1 + 1 = w4.heap.size := (by omega); have rc40 : w4.cell? ⟨w.heap.size + 1 + 1, 0, none⟩ = some (.int .i64 0) := (hc4 _ _ (by first | omega | (simp only [World.size_alloc, World.size_setCell, World.size_drew, size_drewN]; omega))).trans rc30; have rc41 : w4.cell? ⟨w.heap.size + 1 + 1, 1, none⟩ = some (.int .i64 0) := (hc4 _ _ (by first | omega | (simp only [World.size_alloc, World.size_setCell, World.size_drew, size_drewN]; omega))).trans rc31; have rf40 : w4.frozen? ⟨w.heap.size + 1 + 1, 0, none⟩ = false := (hf4 _ _ (by first | omega | (simp only [World.size_alloc, World.size_setCell, World.size_drew, size_drewN]; omega))).trans rf30; have rf41 : w4.frozen? ⟨w.heap.size + 1 + 1, 1, none⟩ = false := (hf4 _ _ (by first | omega | (simp only [World.size_alloc, World.size_setCell, World.size_drew, size_drewN]; omega))).trans rf31) | (go_at_call 71; refine (fit_c _ _ z1 z2 _).mono ?_; rintro e w5 ⟨rfl, hb5⟩; have hc5 := old_cell hb5; have hf5 := old_frozen hb5; have hs5 := hb5.size; (try simp only [World.size_alloc, World.size_setCell, World.size_drew, size_drewN] at hs5); have lw_5 : w.heap.size < w5.heap.size := (by omega); have mw_5 : w.heap.size < w5.heap.size + 1 := (by omega); have nw_5 : ¬ w.heap.size = w5.heap.size := (by omega); have lwp1_5 : w.heap.size + 1 < w5.heap.size := (by omega); have mwp1_5 : w.heap.size + 1 < w5.heap.size + 1 := (by omega); have nwp1_5 : ¬ w.heap.size + 1 = w5.heap.size := (by omega); have ly_5 : w.heap.size + 1 + 1 < w5.heap.size := (by omega); have ny_5 : ¬ w.heap.size + 1 + 1 = w5.heap.size := (by omega); have rc50 : w5.cell? ⟨w.heap.size + 1 + 1, 0, none⟩ = some (.int .i64 0) := (hc5 _ _ (by first | omega | (simp only [World.size_alloc, World.size_setCell, World.size_drew, size_drewN]; omega))).trans rc40; have rc51 : w5.cell? ⟨w.heap.size + 1 + 1, 1, none⟩ = some (.int .i64 0) := (hc5 _ _ (by first | omega | (simp only [World.size_alloc, World.size_setCell, World.size_drew, size_drewN]; omega))).trans rc41; have rf50 : w5.frozen? ⟨w.heap.size + 1 + 1, 0, none⟩ = false := (hf5 _ _ (by first | omega | (simp only [World.size_alloc, World.size_setCell, World.size_drew, size_drewN]; omega))).trans rf40; have rf51 : w5.frozen? ⟨w.heap.size + 1 + 1, 1, none⟩ = false := (hf5 _ _ (by first | omega | (simp only [World.size_alloc, World.size_setCell, World.size_drew, size_drewN]; omega))).trans rf41))
      go_wp2
      refine bodyPost_ret (v := .tuple #[.agg #[.int .i64 (RM.fitS (a / (g1 : Int) * (c / (g2 : Int))) (b / (g2 : Int) * (d / (g1 : Int)))).1, .int .i64 (RM.fitS (a / (g1 : Int) * (c / (g2 : Int))) (b / (g2 : Int) * (d / (g1 : Int)))).2.1], .int .i64 (RM.fitS (a / (g1 : Int) * (c / (g2 : Int))) (b / (g2 : Int) * (d / (g1 : Int)))).2.2]) (by simp [results, Tryd.results59, go_sem, *]) rfl ⟨by rw [HE.out], ?_⟩
      (repeat' (first | (with_reducible exact Below.refl _ _) | (with_reducible refine Below.alloc ?_ ?_ _) | (with_reducible refine below_drewN' ?_ _) | (with_reducible refine Below.drew ?_) | (with_reducible refine Below.setCell ?_ ?_ _) | (with_reducible refine Below.trans ?_ (Below.mono (by with_reducible assumption) ?_)) | go_size))
end Go.Proofs.YthcgcmmkajjhhaaDoor
