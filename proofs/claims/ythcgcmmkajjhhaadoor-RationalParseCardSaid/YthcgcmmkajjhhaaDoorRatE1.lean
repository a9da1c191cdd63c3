/- The code's division of 128 bits. -/
import Derived.Test.YthcgcmmkajjhhaaDoorRatD
namespace Go.Proofs.YthcgcmmkajjhhaaDoor
open Go.RowKit
namespace RM
theorem wide_div (v den : Int) (hd : 1 ≤ den ∧ den ≤ 18446744073709551615) :
    hi64 (v / den) = hi64 v / den ∧ lo64 (v / den) = dq (hi64 v % den) (lo64 v) den ∧ v % den = dr (hi64 v % den) (lo64 v) den
    ∧ 0 ≤ hi64 v % den ∧ hi64 v % den < den := by
  have e := hi_lo v
  have bl := lo_bd v
  have m1 := Int.emod_nonneg (hi64 v) (show den ≠ 0 by omega)
  have m2 := Int.emod_lt_of_pos (hi64 v) (show 0 < den by omega)
  have e2 := Int.mul_ediv_add_emod (hi64 v) den
  generalize hi64 v / den = q at *
  generalize hi64 v % den = r at *
  generalize hi64 v = h at *
  generalize lo64 v = l at *
  have hv : v = (r * 18446744073709551616 + l) + den * (q * 18446744073709551616) := by
    rw [← e, ← e2, Int.add_mul, Int.mul_assoc]; omega
  have hq : v / den = q * 18446744073709551616 + dq r l den := by
    rw [hv, Int.add_mul_ediv_left _ _ (by omega)]; unfold dq; omega
  have hr : v % den = dr r l den := by
    rw [hv, Int.add_mul_emod_self_left]; rfl
  have hb : 0 ≤ dq r l den ∧ dq r l den ≤ 18446744073709551615 := by
    unfold dq
    refine ⟨Int.ediv_nonneg (by omega) (by omega), ?_⟩
    have : (r * 18446744073709551616 + l) / den < 18446744073709551616 := Int.ediv_lt_of_lt_mul (by omega) (by omega)
    omega
  obtain ⟨a1, a2⟩ := halves _ _ _ hb hq
  exact ⟨a1, a2, hr, m1, m2⟩
theorem wide_hq (v den : Int) (hv : 0 ≤ hi64 v ∧ hi64 v ≤ 18446744073709551615) (hd : 1 ≤ den) : 0 ≤ hi64 v / den ∧ hi64 v / den ≤ hi64 v :=
  ⟨Int.ediv_nonneg hv.1 (by omega), Int.ediv_le_self _ hv.1⟩
theorem dq_zero (lo y : Int) : dq 0 lo y = lo / y ∧ dr 0 lo y = lo % y := by unfold dq dr; simp
theorem dqr_bd (hi lo y : Int) (hh : 0 ≤ hi) (hy : hi < y) (hl : 0 ≤ lo ∧ lo ≤ 18446744073709551615) : 0 ≤ dq hi lo y ∧ dq hi lo y ≤ 18446744073709551615 ∧ 0 ≤ dr hi lo y ∧ dr hi lo y < y := by
  unfold dq dr
  refine ⟨Int.ediv_nonneg (by omega) (by omega), ?_, Int.emod_nonneg _ (by omega), Int.emod_lt_of_pos _ (by omega)⟩
  have : (hi * 18446744073709551616 + lo) / y < 18446744073709551616 := Int.ediv_lt_of_lt_mul (by omega) (by omega)
  omega
end RM

theorem div64_c (hi lo y : Int) (hh : 0 ≤ hi) (hy : hi < y ∧ y ≤ 18446744073709551615) (hl : 0 ≤ lo ∧ lo ≤ 18446744073709551615) (w : World) :
    Calls Tryd.prog 51 #[.int .u64 hi, .int .u64 lo, .int .u64 y] w fun e w' => e = .returned (.tuple #[.int .u64 (RM.dq hi lo y), .int .u64 (RM.dr hi lo y)]) ∧ ∃ n, w' = w.drewN n := by
  by_cases h : hi = 0
  · subst h
    obtain ⟨e1, e2⟩ := RM.dq_zero lo y
    rw [e1, e2]
    exact div64_small lo y (by omega) hl w
  · refine (div64_big hi lo y (by omega) hy hl w).mono ?_
    rintro e w' ⟨rfl, rfl⟩
    exact ⟨rfl, 0, rfl⟩

theorem ret_div {a b c d e f : Int} (h1 : a = d) (h2 : b = e) (h3 : c = f) : Ending.returned (.tuple #[.agg #[.int .i64 a, .int .u64 b], .int .u64 c]) = .returned (.tuple #[.agg #[.int .i64 d, .int .u64 e], .int .u64 f]) := by rw [h1, h2, h3]

set_option linter.unusedSimpArgs false in
set_option maxHeartbeats 1000000 in
theorem divide_pos (v den : Int) (hv : 0 ≤ RM.hi64 v ∧ RM.hi64 v ≤ 9223372036854775807) (hd : 1 ≤ den ∧ den ≤ 18446744073709551615) (w : World) :
    Calls Tryd.prog 45 #[.agg #[.int .i64 (RM.hi64 (v)), .int .u64 (RM.lo64 (v))], .int .u64 den] w fun e w' => e = .returned (.tuple #[.agg #[.int .i64 (RM.hi64 (v / den)), .int .u64 (RM.lo64 (v / den))], .int .u64 (v % den)]) ∧ Below w.heap.size w w' := by
  obtain ⟨e1, e2, e3, m1, m2⟩ := RM.wide_div v den hd
  have HE1 := Lib.hid e1
  have HE2 := Lib.hid e2
  have HE3 := Lib.hid e3
  clear e1 e2 e3
  have bl := RM.lo_bd v
  have bq := RM.wide_hq v den (by omega) hd.1
  have hd0 : ¬ den = 0 := by omega
  have hneg : decide (RM.hi64 v < 0) = false := by simp; omega
  have bd := RM.dqr_bd (RM.hi64 v % den) (RM.lo64 v) den m1 m2 bl
  go_enter Tryd.func45, Tryd.ntmps45
  go_wp2
  go_quiet (fail)
  go_wp2_with (first | (go_at_call 51; refine (div64_c _ _ _ (by omega) (by omega) (by omega) _).mono ?_; rintro e w' ⟨rfl, nd, rfl⟩))
  refine bodyPost_ret (v := .tuple #[.agg #[.int .i64 (RM.hi64 v / den), .int .u64 (RM.dq (RM.hi64 v % den) (RM.lo64 v) den)], .int .u64 (RM.dr (RM.hi64 v % den) (RM.lo64 v) den)]) (by simp [results, Tryd.results45, go_sem]) rfl ⟨ret_div (by rw [HE1.out]) (by rw [HE2.out]) (by rw [HE3.out]), ?_⟩
  (repeat' (first | (with_reducible exact Below.refl _ _) | (with_reducible refine Below.alloc ?_ ?_ _) | (with_reducible refine below_drewN' ?_ _) | (with_reducible refine Below.drew ?_) | (with_reducible refine Below.setCell ?_ ?_ _) | (with_reducible refine Below.trans ?_ (Below.mono (by with_reducible assumption) ?_)) | go_size))

set_option linter.unusedSimpArgs false in
set_option maxHeartbeats 1000000 in
theorem divide_c (v den : Int) (hv : -9223372036854775808 ≤ RM.hi64 v ∧ RM.hi64 v ≤ 9223372036854775807) (hd : 1 ≤ den ∧ den ≤ 18446744073709551615) (w : World) :
    Calls Tryd.prog 45 #[.agg #[.int .i64 (RM.hi64 (v)), .int .u64 (RM.lo64 (v))], .int .u64 den] w fun e w' => e = .returned (.tuple #[.agg #[.int .i64 (RM.hi64 (v / den)), .int .u64 (RM.lo64 (v / den))], .int .u64 (v % den)]) ∧ Below w.heap.size w w' := by
  by_cases hneg : RM.hi64 v < 0
  · have c1 := RM.compl_halves v
    have hn := (RM.hi_neg v).1 hneg
    have b1 : 0 ≤ RM.hi64 (-v - 1) ∧ RM.hi64 (-v - 1) ≤ 9223372036854775807 := by omega
    have d1 := RM.wide_div (-v - 1) den hd
    have d2 := RM.wide_hq (-v - 1) den (by omega) hd.1
    have b2 : -9223372036854775808 ≤ RM.hi64 ((-v - 1) / den) ∧ RM.hi64 ((-v - 1) / den) ≤ 9223372036854775807 := by omega
    obtain ⟨n1, n2⟩ := RM.div_neg v den (by omega)
    have m1 := Int.emod_nonneg (-v - 1) (show den ≠ 0 by omega)
    have m2 := Int.emod_lt_of_pos (-v - 1) (show 0 < den by omega)
    have HE1 := Lib.hid (congrArg RM.hi64 n1)
    have HE2 := Lib.hid (congrArg RM.lo64 n1)
    have HE3 := Lib.hid n2
    clear c1 hn d1 d2 n1 n2
    go_enter Tryd.func45, Tryd.ntmps45
    go_wp2_with fail
    refine (compl_c v hv _).mono ?_
    rintro e w1 ⟨rfl, hb1⟩
    have hc1 := old_cell hb1
    have hf1 := old_frozen hb1
    have hs1 := hb1.size
    (try simp only [World.size_alloc, World.size_setCell, World.size_drew, size_drewN] at hs1)
    have lw_1 : w.heap.size < w1.heap.size := (by omega)
    have mw_1 : w.heap.size < w1.heap.size + 1 := (by omega)
    have nw_1 : ¬ w.heap.size = w1.heap.size := (by omega)
    have lwp1_1 : w.heap.size + 1 < w1.heap.size := (by omega)
    have mwp1_1 : w.heap.size + 1 < w1.heap.size + 1 := (by omega)
    have nwp1_1 : ¬ w.heap.size + 1 = w1.heap.size := (by omega)
    go_wp2_with fail
    refine (divide_pos (-v - 1) den b1 hd _).mono ?_
    rintro e w2 ⟨rfl, hb2⟩
    have hc2 := old_cell hb2
    have hf2 := old_frozen hb2
    have hs2 := hb2.size
    (try simp only [World.size_alloc, World.size_setCell, World.size_drew, size_drewN] at hs2)
    have lw_2 : w.heap.size < w2.heap.size := (by omega)
    have mw_2 : w.heap.size < w2.heap.size + 1 := (by omega)
    have nw_2 : ¬ w.heap.size = w2.heap.size := (by omega)
    have lwp1_2 : w.heap.size + 1 < w2.heap.size := (by omega)
    have mwp1_2 : w.heap.size + 1 < w2.heap.size + 1 := (by omega)
    have nwp1_2 : ¬ w.heap.size + 1 = w2.heap.size := (by omega)
    go_wp2_with fail
    refine (compl_c ((-v - 1) / den) b2 _).mono ?_
    rintro e w3 ⟨rfl, hb3⟩
    have hc3 := old_cell hb3
    have hf3 := old_frozen hb3
    have hs3 := hb3.size
    (try simp only [World.size_alloc, World.size_setCell, World.size_drew, size_drewN] at hs3)
    have lw_3 : w.heap.size < w3.heap.size := (by omega)
    have mw_3 : w.heap.size < w3.heap.size + 1 := (by omega)
    have nw_3 : ¬ w.heap.size = w3.heap.size := (by omega)
    have lwp1_3 : w.heap.size + 1 < w3.heap.size := (by omega)
    have mwp1_3 : w.heap.size + 1 < w3.heap.size + 1 := (by omega)
    have nwp1_3 : ¬ w.heap.size + 1 = w3.heap.size := (by omega)
    have lw2_3 : w2.heap.size < w3.heap.size := (by omega)
    have mw2_3 : w2.heap.size < w3.heap.size + 1 := (by omega)
    have nw2_3 : ¬ w2.heap.size = w3.heap.size := (by omega)
    go_wp2
    refine bodyPost_ret (v := .tuple #[.agg #[.int .i64 (RM.hi64 (-((-v - 1) / den) - 1)), .int .u64 (RM.lo64 (-((-v - 1) / den) - 1))], .int .u64 (den - 1 - (-v - 1) % den)]) (by simp [results, Tryd.results45, go_sem, *]) rfl ⟨ret_div (by rw [HE1.out]) (by rw [HE2.out]) (by rw [HE3.out]), ?_⟩
    (repeat' (first | (with_reducible exact Below.refl _ _) | (with_reducible refine Below.alloc ?_ ?_ _) | (with_reducible refine below_drewN' ?_ _) | (with_reducible refine Below.drew ?_) | (with_reducible refine Below.setCell ?_ ?_ _) | (with_reducible refine Below.trans ?_ (Below.mono (by with_reducible assumption) ?_)) | go_size))
  · exact divide_pos v den (by omega) hd w
end Go.Proofs.YthcgcmmkajjhhaaDoor
