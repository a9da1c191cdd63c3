/- The code's Sub; the law RationalOrder as a contract. -/
import Derived.Test.YtpoiojacpaglcaaRatAdd
import Derived.Test.YtpoiojacpaglcaaRatC
namespace Go.Proofs.Ytpoiojacpaglcaa
open Go.RowKit
namespace RM
theorem ok_neg {c d : Int} (h0 : -9223372036854775808 < c) (h1 : c ≤ 9223372036854775807) : ok (-c) d = ok c d := by
  rw [Bool.eq_iff_iff]
  simp only [ok, decide_eq_true_eq, Int.natAbs_neg]
  omega
theorem sub_add {a b c d : Int} (h0 : -9223372036854775808 < c) (h1 : c ≤ 9223372036854775807) : addS a b (-c) d = subS a b c d := by
  unfold addS subS
  rw [ok_neg h0 h1]
  by_cases h : ok a b = true ∧ ok c d = true
  · rw [if_pos h, if_pos h, Rat.sub_eq_add_neg]
    unfold q
    rw [Rat.neg_mkRat]
  · rw [if_neg h, if_neg h]
theorem ok_min (d : Int) : ok (-9223372036854775808) d = false := by simp only [ok, decide_eq_false_iff_not]; omega
theorem sub_min {a b d : Int} : addS a b (-9223372036854775808) d = subS a b (-9223372036854775808) d := by
  simp [addS, subS, ok_min]
theorem enc_ok (x : Rat) (h : (enc x).2.2 = 0) : enc x = (x.num, (x.den : Int), 0) ∧ fits x = true := by
  unfold enc at *
  by_cases hf : fits x = true
  · rw [if_pos hf]; exact ⟨rfl, hf⟩
  · rw [if_neg hf] at h; simp at h
theorem sub_ok {a b c d : Int} (h : (subS a b c d).2.2 = 0) : ok a b = true ∧ ok c d = true ∧ (subS a b c d).1 = (q a b - q c d).num := by
  unfold subS at *
  by_cases hk : ok a b = true ∧ ok c d = true
  · rw [if_pos hk] at *
    have := enc_ok _ h
    exact ⟨hk.1, hk.2, by rw [this.1]⟩
  · rw [if_neg hk] at h; simp at h
theorem cmp_q {a b c d : Int} (h1 : ok a b = true) (h2 : ok c d = true) : (a * d < c * b) ↔ q a b < q c d := by
  rw [Rat.lt_iff, q_num h1, q_num h2, q_den h1, q_den h2]
theorem num_pos_iff (x : Rat) : 0 < x.num ↔ 0 < x := by
  rw [Rat.lt_iff]; simp
theorem num_neg_iff (x : Rat) : x.num < 0 ↔ x < 0 := by
  rw [Rat.lt_iff]; simp
def sgn (n : Int) : Int := if 0 < n then 1 else if n < 0 then -1 else 0
theorem order_sign {a b c d : Int} (h : (subS a b c d).2.2 = 0) : cmpS a b c d = sgn (subS a b c d).1 ∧ cmpS c d a b = -sgn (subS a b c d).1 := by
  obtain ⟨h1, h2, h3⟩ := sub_ok h
  have p1 : 0 < (subS a b c d).1 ↔ c * b < a * d := by
    rw [h3, num_pos_iff, ← Rat.lt_iff_sub_pos, ← cmp_q h2 h1]
  have p2 : (subS a b c d).1 < 0 ↔ a * d < c * b := by
    rw [h3, num_neg_iff, cmp_q h1 h2]
    constructor
    · intro h
      have := (Rat.add_lt_add_right (c := q c d)).2 h
      rwa [Rat.sub_add_cancel, Rat.zero_add] at this
    · intro h
      have := (Rat.add_lt_add_right (c := -(q c d))).2 h
      rwa [← Rat.sub_eq_add_neg, Rat.add_neg_cancel] at this
  rw [cmpS, if_pos ⟨h1, h2⟩, cmpS, if_pos ⟨h2, h1⟩]
  unfold cmpI sgn
  by_cases a1 : c * b < a * d <;> by_cases a2 : a * d < c * b
  · omega
  · rw [if_neg a2, if_pos a1, if_pos (p1.2 a1), if_pos a1]; exact ⟨rfl, rfl⟩
  · have n1 : ¬ 0 < (subS a b c d).1 := fun h => a1 (p1.1 h)
    rw [if_pos a2, if_neg n1, if_pos (p2.2 a2), if_neg a1, if_pos a2]; exact ⟨rfl, rfl⟩
  · have n1 : ¬ 0 < (subS a b c d).1 := fun h => a1 (p1.1 h)
    have n2 : ¬ (subS a b c d).1 < 0 := fun h => a2 (p2.1 h)
    rw [if_neg a2, if_neg a1, if_neg n1, if_neg n2, if_neg a1, if_neg a2]; exact ⟨rfl, rfl⟩
theorem cmp_less {a b c d : Int} (h : cmpS a b c d < 0) : ok a b = true ∧ ok c d = true ∧ q a b < q c d := by
  unfold cmpS cmpI at h
  by_cases hk : ok a b = true ∧ ok c d = true
  · rw [if_pos hk] at h
    refine ⟨hk.1, hk.2, ?_⟩
    rw [← cmp_q hk.1 hk.2]
    split at h
    · assumption
    · split at h <;> omega
  · rw [if_neg hk] at h; omega
theorem cmp_trans {a b c d e f : Int} (h1 : cmpS a b c d < 0) (h2 : cmpS c d e f < 0) : cmpS a b e f < 0 := by
  obtain ⟨k1, k2, l1⟩ := cmp_less h1
  obtain ⟨k3, k4, l2⟩ := cmp_less h2
  have l3 : q a b < q e f := by
    rw [Rat.lt_iff_le_and_ne] at *
    refine ⟨Rat.le_trans l1.1 l2.1, fun he => ?_⟩
    rw [he] at l1
    exact l2.2 (Rat.le_antisymm l2.1 l1.1)
  rw [cmpS, if_pos ⟨k1, k4⟩, cmpI, if_pos ((cmp_q k1 k4).2 l3)]
  omega
end RM

set_option linter.unusedSimpArgs false in
set_option linter.unusedVariables false in
set_option maxHeartbeats 8000000 in
theorem Sub_c (a b c d : Int) (ha : -9223372036854775808 ≤ a ∧ a ≤ 9223372036854775807) (hb : -9223372036854775808 ≤ b ∧ b ≤ 9223372036854775807) (hc : -9223372036854775808 ≤ c ∧ c ≤ 9223372036854775807) (hd : -9223372036854775808 ≤ d ∧ d ≤ 9223372036854775807) (w : World) :
    Calls Try.prog 18 #[.agg #[.int .i64 a, .int .i64 b], .agg #[.int .i64 c, .int .i64 d]] w fun e w' => e = .returned (.tuple #[.agg #[.int .i64 (RM.subS a b c d).1, .int .i64 (RM.subS a b c d).2.1], .int .i64 (RM.subS a b c d).2.2]) ∧ Below w.heap.size w w' := by
  by_cases h0 : c = -9223372036854775808
  · subst h0
    have HE := Lib.hid (RM.sub_min (a := a) (b := b) (d := d))
    have v1 : wrap64 9223372036854775808 = -9223372036854775808 := by unfold wrap64; omega
    go_enter Try.func18, Try.ntmps18
    go_wp2_with fail
    refine (Add_c a b (-9223372036854775808) d ha hb (by omega) hd _).mono ?_
    rintro e w1 ⟨rfl, hb1⟩
    have hc1 := old_cell hb1
    have hf1 := old_frozen hb1
    have hs1 := hb1.size
    (try simp only [World.size_alloc, World.size_setCell, World.size_drew, size_drewN] at hs1)
    have lw_1 : w.heap.size < w1.heap.size := (by omega)
    have mw_1 : w.heap.size < w1.heap.size + 1 := (by omega)
    have nw_1 : ¬ w.heap.size = w1.heap.size := (by omega)
    have lwp1_1 : w.heap.size + 1 < w1.heap.size := (by omega)
    have mwp1_1 : w.heap.size + 1 < w1.heap.size + 1 := (by omega)
    have nwp1_1 : ¬ w.heap.size + 1 = w1.heap.size := (by omega)
    have ly_1 : w.heap.size + 1 + 1 < w1.heap.size := (by omega)
    have ny_1 : ¬ w.heap.size + 1 + 1 = w1.heap.size := (by omega)
    have rc10 : w1.cell? ⟨w.heap.size + 1 + 1, 0, none⟩ = some (.int .i64 0) := by go_simp
    have rc11 : w1.cell? ⟨w.heap.size + 1 + 1, 1, none⟩ = some (.int .i64 0) := by go_simp
    have rf10 : w1.frozen? ⟨w.heap.size + 1 + 1, 0, none⟩ = false := by go_simp
    have rf11 : w1.frozen? ⟨w.heap.size + 1 + 1, 1, none⟩ = false := by go_simp
    go_wp2
    refine bodyPost_ret (v := .tuple #[.agg #[.int .i64 (RM.addS a b (-9223372036854775808) d).1, .int .i64 (RM.addS a b (-9223372036854775808) d).2.1], .int .i64 (RM.addS a b (-9223372036854775808) d).2.2]) (by simp [results, Try.results18, go_sem, *]) rfl ⟨by rw [HE.out], ?_⟩
    (repeat' (first | (with_reducible exact Below.refl _ _) | (with_reducible refine Below.alloc ?_ ?_ _) | (with_reducible refine below_drewN' ?_ _) | (with_reducible refine Below.drew ?_) | (with_reducible refine Below.setCell ?_ ?_ _) | (with_reducible refine Below.trans ?_ (Below.mono (by with_reducible assumption) ?_)) | go_size))
  · have HE := Lib.hid (RM.sub_add (a := a) (b := b) (d := d) (show -9223372036854775808 < c by omega) hc.2)
    go_enter Try.func18, Try.ntmps18
    go_wp2_with fail
    refine (Add_c a b (-c) d ha hb (by omega) hd _).mono ?_
    rintro e w1 ⟨rfl, hb1⟩
    have hc1 := old_cell hb1
    have hf1 := old_frozen hb1
    have hs1 := hb1.size
    (try simp only [World.size_alloc, World.size_setCell, World.size_drew, size_drewN] at hs1)
    have lw_1 : w.heap.size < w1.heap.size := (by omega)
    have mw_1 : w.heap.size < w1.heap.size + 1 := (by omega)
    have nw_1 : ¬ w.heap.size = w1.heap.size := (by omega)
    have lwp1_1 : w.heap.size + 1 < w1.heap.size := (by omega)
    have mwp1_1 : w.heap.size + 1 < w1.heap.size + 1 := (by omega)
    have nwp1_1 : ¬ w.heap.size + 1 = w1.heap.size := (by omega)
    have ly_1 : w.heap.size + 1 + 1 < w1.heap.size := (by omega)
    have ny_1 : ¬ w.heap.size + 1 + 1 = w1.heap.size := (by omega)
    have rc10 : w1.cell? ⟨w.heap.size + 1 + 1, 0, none⟩ = some (.int .i64 0) := by go_simp
    have rc11 : w1.cell? ⟨w.heap.size + 1 + 1, 1, none⟩ = some (.int .i64 0) := by go_simp
    have rf10 : w1.frozen? ⟨w.heap.size + 1 + 1, 0, none⟩ = false := by go_simp
    have rf11 : w1.frozen? ⟨w.heap.size + 1 + 1, 1, none⟩ = false := by go_simp
    go_wp2
    refine bodyPost_ret (v := .tuple #[.agg #[.int .i64 (RM.addS a b (-c) d).1, .int .i64 (RM.addS a b (-c) d).2.1], .int .i64 (RM.addS a b (-c) d).2.2]) (by simp [results, Try.results18, go_sem, *]) rfl ⟨by rw [HE.out], ?_⟩
    (repeat' (first | (with_reducible exact Below.refl _ _) | (with_reducible refine Below.alloc ?_ ?_ _) | (with_reducible refine below_drewN' ?_ _) | (with_reducible refine Below.drew ?_) | (with_reducible refine Below.setCell ?_ ?_ _) | (with_reducible refine Below.trans ?_ (Below.mono (by with_reducible assumption) ?_)) | go_size))

set_option linter.unusedSimpArgs false in
set_option linter.unusedVariables false in
set_option maxHeartbeats 8000000 in
theorem lawOrder_c (a b c d e f : Int) (ha : -9223372036854775808 ≤ a ∧ a ≤ 9223372036854775807) (hb : -9223372036854775808 ≤ b ∧ b ≤ 9223372036854775807) (hc : -9223372036854775808 ≤ c ∧ c ≤ 9223372036854775807) (hd : -9223372036854775808 ≤ d ∧ d ≤ 9223372036854775807) (he : -9223372036854775808 ≤ e ∧ e ≤ 9223372036854775807) (hf : -9223372036854775808 ≤ f ∧ f ≤ 9223372036854775807) (w : World) :
    Calls Try.prog 10 #[.agg #[.int .i64 a, .int .i64 b], .agg #[.int .i64 c, .int .i64 d], .agg #[.int .i64 e, .int .i64 f]] w fun e w' => e = .returned (.bool true) ∧ Below w.heap.size w w' := by
  by_cases h0 : (RM.subS a b c d).2.2 = 0
  · obtain ⟨o1, o2⟩ := RM.order_sign h0
    by_cases s1 : 0 < (RM.subS a b c d).1
    · have v1 : RM.sgn (RM.subS a b c d).1 = 1 := by rw [RM.sgn, if_pos s1]
      rw [v1] at o1 o2
      clear v1
      go_enter Try.func10, Try.ntmps10
      go_wp2_with (first | (go_at_call 18; refine (Sub_c a b c d ha hb hc hd _).mono ?_; rintro e' w1 ⟨rfl, hb1⟩; have hc1 := old_cell hb1; have hf1 := old_frozen hb1; have hs1 := hb1.size; (try simp only [World.size_alloc, World.size_setCell, World.size_drew, size_drewN] at hs1); have lw_1 : w.heap.size < w1.heap.size := (by omega); have mw_1 : w.heap.size < w1.heap.size + 1 := (by omega); have nw_1 : ¬ w.heap.size = w1.heap.size := (by omega); have lwp1_1 : w.heap.size + 1 < w1.heap.size := (by omega); have mwp1_1 : w.heap.size + 1 < w1.heap.size + 1 := (by omega); have nwp1_1 : ¬ w.heap.size + 1 = w1.heap.size := (by omega); have ly_1 : w.heap.size + 1 + 1 < w1.heap.size := (by omega); have ny_1 : ¬ w.heap.size + 1 + 1 = w1.heap.size := (by omega)) | (go_at_call 24; refine (Cmp_c _ _ _ _ (by omega) (by omega) (by omega) (by omega) _).mono ?_; rintro e' w2 ⟨rfl, hb2⟩; have hc2 := old_cell hb2; have hf2 := old_frozen hb2; have hs2 := hb2.size; (try simp only [World.size_alloc, World.size_setCell, World.size_drew, size_drewN] at hs2); have lw_2 : w.heap.size < w2.heap.size := (by omega); have mw_2 : w.heap.size < w2.heap.size + 1 := (by omega); have nw_2 : ¬ w.heap.size = w2.heap.size := (by omega); have lwp1_2 : w.heap.size + 1 < w2.heap.size := (by omega); have mwp1_2 : w.heap.size + 1 < w2.heap.size + 1 := (by omega); have nwp1_2 : ¬ w.heap.size + 1 = w2.heap.size := (by omega); have ly_2 : w.heap.size + 1 + 1 < w2.heap.size := (by omega); have ny_2 : ¬ w.heap.size + 1 + 1 = w2.heap.size := (by omega); have lx_2 : w1.heap.size < w2.heap.size := (by omega); have nx_2 : ¬ w1.heap.size = w2.heap.size := (by omega)) | (go_at_call 13; refine (awake_c _).mono ?_; rintro e' w3 ⟨rfl, hb3⟩; have hc3 := old_cell hb3; have hf3 := old_frozen hb3; have hs3 := hb3.size; (try simp only [World.size_alloc, World.size_setCell, World.size_drew, size_drewN] at hs3); have lw_3 : w.heap.size < w3.heap.size := (by omega); have mw_3 : w.heap.size < w3.heap.size + 1 := (by omega); have nw_3 : ¬ w.heap.size = w3.heap.size := (by omega); have lwp1_3 : w.heap.size + 1 < w3.heap.size := (by omega); have mwp1_3 : w.heap.size + 1 < w3.heap.size + 1 := (by omega); have nwp1_3 : ¬ w.heap.size + 1 = w3.heap.size := (by omega); have ly_3 : w.heap.size + 1 + 1 < w3.heap.size := (by omega); have ny_3 : ¬ w.heap.size + 1 + 1 = w3.heap.size := (by omega)))
      go_ret
      refine ⟨rfl, ?_⟩
      (repeat' (first | (with_reducible exact Below.refl _ _) | (with_reducible refine Below.alloc ?_ ?_ _) | (with_reducible refine below_drewN' ?_ _) | (with_reducible refine Below.drew ?_) | (with_reducible refine Below.setCell ?_ ?_ _) | (with_reducible refine Below.trans ?_ (Below.mono (by with_reducible assumption) ?_)) | go_size))
    · by_cases s2 : (RM.subS a b c d).1 < 0
      · have v1 : RM.sgn (RM.subS a b c d).1 = -1 := by rw [RM.sgn, if_neg s1, if_pos s2]
        rw [v1] at o1 o2
        clear v1
        have t1 : RM.cmpS a b c d < 0 := by omega
        by_cases t2 : RM.cmpS c d e f < 0
        · have t3 := RM.cmp_trans t1 t2
          go_enter Try.func10, Try.ntmps10
          go_wp2_with (first | (go_at_call 18; refine (Sub_c a b c d ha hb hc hd _).mono ?_; rintro e' w1 ⟨rfl, hb1⟩; have hc1 := old_cell hb1; have hf1 := old_frozen hb1; have hs1 := hb1.size; (try simp only [World.size_alloc, World.size_setCell, World.size_drew, size_drewN] at hs1); have lw_1 : w.heap.size < w1.heap.size := (by omega); have mw_1 : w.heap.size < w1.heap.size + 1 := (by omega); have nw_1 : ¬ w.heap.size = w1.heap.size := (by omega); have lwp1_1 : w.heap.size + 1 < w1.heap.size := (by omega); have mwp1_1 : w.heap.size + 1 < w1.heap.size + 1 := (by omega); have nwp1_1 : ¬ w.heap.size + 1 = w1.heap.size := (by omega); have ly_1 : w.heap.size + 1 + 1 < w1.heap.size := (by omega); have ny_1 : ¬ w.heap.size + 1 + 1 = w1.heap.size := (by omega)) | (go_at_call 24; refine (Cmp_c _ _ _ _ (by omega) (by omega) (by omega) (by omega) _).mono ?_; rintro e' w2 ⟨rfl, hb2⟩; have hc2 := old_cell hb2; have hf2 := old_frozen hb2; have hs2 := hb2.size; (try simp only [World.size_alloc, World.size_setCell, World.size_drew, size_drewN] at hs2); have lw_2 : w.heap.size < w2.heap.size := (by omega); have mw_2 : w.heap.size < w2.heap.size + 1 := (by omega); have nw_2 : ¬ w.heap.size = w2.heap.size := (by omega); have lwp1_2 : w.heap.size + 1 < w2.heap.size := (by omega); have mwp1_2 : w.heap.size + 1 < w2.heap.size + 1 := (by omega); have nwp1_2 : ¬ w.heap.size + 1 = w2.heap.size := (by omega); have ly_2 : w.heap.size + 1 + 1 < w2.heap.size := (by omega); have ny_2 : ¬ w.heap.size + 1 + 1 = w2.heap.size := (by omega); have lx_2 : w1.heap.size < w2.heap.size := (by omega); have nx_2 : ¬ w1.heap.size = w2.heap.size := (by omega)) | (go_at_call 13; refine (awake_c _).mono ?_; rintro e' w3 ⟨rfl, hb3⟩; have hc3 := old_cell hb3; have hf3 := old_frozen hb3; have hs3 := hb3.size; (try simp only [World.size_alloc, World.size_setCell, World.size_drew, size_drewN] at hs3); have lw_3 : w.heap.size < w3.heap.size := (by omega); have mw_3 : w.heap.size < w3.heap.size + 1 := (by omega); have nw_3 : ¬ w.heap.size = w3.heap.size := (by omega); have lwp1_3 : w.heap.size + 1 < w3.heap.size := (by omega); have mwp1_3 : w.heap.size + 1 < w3.heap.size + 1 := (by omega); have nwp1_3 : ¬ w.heap.size + 1 = w3.heap.size := (by omega); have ly_3 : w.heap.size + 1 + 1 < w3.heap.size := (by omega); have ny_3 : ¬ w.heap.size + 1 + 1 = w3.heap.size := (by omega)))
          go_ret
          refine ⟨rfl, ?_⟩
          (repeat' (first | (with_reducible exact Below.refl _ _) | (with_reducible refine Below.alloc ?_ ?_ _) | (with_reducible refine below_drewN' ?_ _) | (with_reducible refine Below.drew ?_) | (with_reducible refine Below.setCell ?_ ?_ _) | (with_reducible refine Below.trans ?_ (Below.mono (by with_reducible assumption) ?_)) | go_size))
        · skip
          go_enter Try.func10, Try.ntmps10
          go_wp2_with (first | (go_at_call 18; refine (Sub_c a b c d ha hb hc hd _).mono ?_; rintro e' w1 ⟨rfl, hb1⟩; have hc1 := old_cell hb1; have hf1 := old_frozen hb1; have hs1 := hb1.size; (try simp only [World.size_alloc, World.size_setCell, World.size_drew, size_drewN] at hs1); have lw_1 : w.heap.size < w1.heap.size := (by omega); have mw_1 : w.heap.size < w1.heap.size + 1 := (by omega); have nw_1 : ¬ w.heap.size = w1.heap.size := (by omega); have lwp1_1 : w.heap.size + 1 < w1.heap.size := (by omega); have mwp1_1 : w.heap.size + 1 < w1.heap.size + 1 := (by omega); have nwp1_1 : ¬ w.heap.size + 1 = w1.heap.size := (by omega); have ly_1 : w.heap.size + 1 + 1 < w1.heap.size := (by omega); have ny_1 : ¬ w.heap.size + 1 + 1 = w1.heap.size := (by omega)) | (go_at_call 24; refine (Cmp_c _ _ _ _ (by omega) (by omega) (by omega) (by omega) _).mono ?_; rintro e' w2 ⟨rfl, hb2⟩; have hc2 := old_cell hb2; have hf2 := old_frozen hb2; have hs2 := hb2.size; (try simp only [World.size_alloc, World.size_setCell, World.size_drew, size_drewN] at hs2); have lw_2 : w.heap.size < w2.heap.size := (by omega); have mw_2 : w.heap.size < w2.heap.size + 1 := (by omega); have nw_2 : ¬ w.heap.size = w2.heap.size := (by omega); have lwp1_2 : w.heap.size + 1 < w2.heap.size := (by omega); have mwp1_2 : w.heap.size + 1 < w2.heap.size + 1 := (by omega); have nwp1_2 : ¬ w.heap.size + 1 = w2.heap.size := (by omega); have ly_2 : w.heap.size + 1 + 1 < w2.heap.size := (by omega); have ny_2 : ¬ w.heap.size + 1 + 1 = w2.heap.size := (by omega); have lx_2 : w1.heap.size < w2.heap.size := (by omega); have nx_2 : ¬ w1.heap.size = w2.heap.size := (by omega)) | (go_at_call 13; refine (awake_c _).mono ?_; rintro e' w3 ⟨rfl, hb3⟩; have hc3 := old_cell hb3; have hf3 := old_frozen hb3; have hs3 := hb3.size; (try simp only [World.size_alloc, World.size_setCell, World.size_drew, size_drewN] at hs3); have lw_3 : w.heap.size < w3.heap.size := (by omega); have mw_3 : w.heap.size < w3.heap.size + 1 := (by omega); have nw_3 : ¬ w.heap.size = w3.heap.size := (by omega); have lwp1_3 : w.heap.size + 1 < w3.heap.size := (by omega); have mwp1_3 : w.heap.size + 1 < w3.heap.size + 1 := (by omega); have nwp1_3 : ¬ w.heap.size + 1 = w3.heap.size := (by omega); have ly_3 : w.heap.size + 1 + 1 < w3.heap.size := (by omega); have ny_3 : ¬ w.heap.size + 1 + 1 = w3.heap.size := (by omega)))
          go_ret
          refine ⟨rfl, ?_⟩
          (repeat' (first | (with_reducible exact Below.refl _ _) | (with_reducible refine Below.alloc ?_ ?_ _) | (with_reducible refine below_drewN' ?_ _) | (with_reducible refine Below.drew ?_) | (with_reducible refine Below.setCell ?_ ?_ _) | (with_reducible refine Below.trans ?_ (Below.mono (by with_reducible assumption) ?_)) | go_size))
      · have v1 : RM.sgn (RM.subS a b c d).1 = 0 := by rw [RM.sgn, if_neg s1, if_neg s2]
        rw [v1] at o1 o2
        clear v1
        go_enter Try.func10, Try.ntmps10
        go_wp2_with (first | (go_at_call 18; refine (Sub_c a b c d ha hb hc hd _).mono ?_; rintro e' w1 ⟨rfl, hb1⟩; have hc1 := old_cell hb1; have hf1 := old_frozen hb1; have hs1 := hb1.size; (try simp only [World.size_alloc, World.size_setCell, World.size_drew, size_drewN] at hs1); have lw_1 : w.heap.size < w1.heap.size := (by omega); have mw_1 : w.heap.size < w1.heap.size + 1 := (by omega); have nw_1 : ¬ w.heap.size = w1.heap.size := (by omega); have lwp1_1 : w.heap.size + 1 < w1.heap.size := (by omega); have mwp1_1 : w.heap.size + 1 < w1.heap.size + 1 := (by omega); have nwp1_1 : ¬ w.heap.size + 1 = w1.heap.size := (by omega); have ly_1 : w.heap.size + 1 + 1 < w1.heap.size := (by omega); have ny_1 : ¬ w.heap.size + 1 + 1 = w1.heap.size := (by omega)) | (go_at_call 24; refine (Cmp_c _ _ _ _ (by omega) (by omega) (by omega) (by omega) _).mono ?_; rintro e' w2 ⟨rfl, hb2⟩; have hc2 := old_cell hb2; have hf2 := old_frozen hb2; have hs2 := hb2.size; (try simp only [World.size_alloc, World.size_setCell, World.size_drew, size_drewN] at hs2); have lw_2 : w.heap.size < w2.heap.size := (by omega); have mw_2 : w.heap.size < w2.heap.size + 1 := (by omega); have nw_2 : ¬ w.heap.size = w2.heap.size := (by omega); have lwp1_2 : w.heap.size + 1 < w2.heap.size := (by omega); have mwp1_2 : w.heap.size + 1 < w2.heap.size + 1 := (by omega); have nwp1_2 : ¬ w.heap.size + 1 = w2.heap.size := (by omega); have ly_2 : w.heap.size + 1 + 1 < w2.heap.size := (by omega); have ny_2 : ¬ w.heap.size + 1 + 1 = w2.heap.size := (by omega); have lx_2 : w1.heap.size < w2.heap.size := (by omega); have nx_2 : ¬ w1.heap.size = w2.heap.size := (by omega)) | (go_at_call 13; refine (awake_c _).mono ?_; rintro e' w3 ⟨rfl, hb3⟩; have hc3 := old_cell hb3; have hf3 := old_frozen hb3; have hs3 := hb3.size; (try simp only [World.size_alloc, World.size_setCell, World.size_drew, size_drewN] at hs3); have lw_3 : w.heap.size < w3.heap.size := (by omega); have mw_3 : w.heap.size < w3.heap.size + 1 := (by omega); have nw_3 : ¬ w.heap.size = w3.heap.size := (by omega); have lwp1_3 : w.heap.size + 1 < w3.heap.size := (by omega); have mwp1_3 : w.heap.size + 1 < w3.heap.size + 1 := (by omega); have nwp1_3 : ¬ w.heap.size + 1 = w3.heap.size := (by omega); have ly_3 : w.heap.size + 1 + 1 < w3.heap.size := (by omega); have ny_3 : ¬ w.heap.size + 1 + 1 = w3.heap.size := (by omega)))
        go_ret
        refine ⟨rfl, ?_⟩
        (repeat' (first | (with_reducible exact Below.refl _ _) | (with_reducible refine Below.alloc ?_ ?_ _) | (with_reducible refine below_drewN' ?_ _) | (with_reducible refine Below.drew ?_) | (with_reducible refine Below.setCell ?_ ?_ _) | (with_reducible refine Below.trans ?_ (Below.mono (by with_reducible assumption) ?_)) | go_size))
  · have h0' : ((RM.subS a b c d).2.2 == 0) = false := by simpa using h0
    by_cases t1 : RM.cmpS a b c d < 0
    · by_cases t2 : RM.cmpS c d e f < 0
      · have t3 := RM.cmp_trans t1 t2
        go_enter Try.func10, Try.ntmps10
        go_wp2_with (first | (go_at_call 18; refine (Sub_c a b c d ha hb hc hd _).mono ?_; rintro e' w1 ⟨rfl, hb1⟩; have hc1 := old_cell hb1; have hf1 := old_frozen hb1; have hs1 := hb1.size; (try simp only [World.size_alloc, World.size_setCell, World.size_drew, size_drewN] at hs1); have lw_1 : w.heap.size < w1.heap.size := (by omega); have mw_1 : w.heap.size < w1.heap.size + 1 := (by omega); have nw_1 : ¬ w.heap.size = w1.heap.size := (by omega); have lwp1_1 : w.heap.size + 1 < w1.heap.size := (by omega); have mwp1_1 : w.heap.size + 1 < w1.heap.size + 1 := (by omega); have nwp1_1 : ¬ w.heap.size + 1 = w1.heap.size := (by omega); have ly_1 : w.heap.size + 1 + 1 < w1.heap.size := (by omega); have ny_1 : ¬ w.heap.size + 1 + 1 = w1.heap.size := (by omega)) | (go_at_call 24; refine (Cmp_c _ _ _ _ (by omega) (by omega) (by omega) (by omega) _).mono ?_; rintro e' w2 ⟨rfl, hb2⟩; have hc2 := old_cell hb2; have hf2 := old_frozen hb2; have hs2 := hb2.size; (try simp only [World.size_alloc, World.size_setCell, World.size_drew, size_drewN] at hs2); have lw_2 : w.heap.size < w2.heap.size := (by omega); have mw_2 : w.heap.size < w2.heap.size + 1 := (by omega); have nw_2 : ¬ w.heap.size = w2.heap.size := (by omega); have lwp1_2 : w.heap.size + 1 < w2.heap.size := (by omega); have mwp1_2 : w.heap.size + 1 < w2.heap.size + 1 := (by omega); have nwp1_2 : ¬ w.heap.size + 1 = w2.heap.size := (by omega); have ly_2 : w.heap.size + 1 + 1 < w2.heap.size := (by omega); have ny_2 : ¬ w.heap.size + 1 + 1 = w2.heap.size := (by omega); have lx_2 : w1.heap.size < w2.heap.size := (by omega); have nx_2 : ¬ w1.heap.size = w2.heap.size := (by omega)) | (go_at_call 13; refine (awake_c _).mono ?_; rintro e' w3 ⟨rfl, hb3⟩; have hc3 := old_cell hb3; have hf3 := old_frozen hb3; have hs3 := hb3.size; (try simp only [World.size_alloc, World.size_setCell, World.size_drew, size_drewN] at hs3); have lw_3 : w.heap.size < w3.heap.size := (by omega); have mw_3 : w.heap.size < w3.heap.size + 1 := (by omega); have nw_3 : ¬ w.heap.size = w3.heap.size := (by omega); have lwp1_3 : w.heap.size + 1 < w3.heap.size := (by omega); have mwp1_3 : w.heap.size + 1 < w3.heap.size + 1 := (by omega); have nwp1_3 : ¬ w.heap.size + 1 = w3.heap.size := (by omega); have ly_3 : w.heap.size + 1 + 1 < w3.heap.size := (by omega); have ny_3 : ¬ w.heap.size + 1 + 1 = w3.heap.size := (by omega)))
        go_ret
        refine ⟨rfl, ?_⟩
        (repeat' (first | (with_reducible exact Below.refl _ _) | (with_reducible refine Below.alloc ?_ ?_ _) | (with_reducible refine below_drewN' ?_ _) | (with_reducible refine Below.drew ?_) | (with_reducible refine Below.setCell ?_ ?_ _) | (with_reducible refine Below.trans ?_ (Below.mono (by with_reducible assumption) ?_)) | go_size))
      · skip
        go_enter Try.func10, Try.ntmps10
        go_wp2_with (first | (go_at_call 18; refine (Sub_c a b c d ha hb hc hd _).mono ?_; rintro e' w1 ⟨rfl, hb1⟩; have hc1 := old_cell hb1; have hf1 := old_frozen hb1; have hs1 := hb1.size; (try simp only [World.size_alloc, World.size_setCell, World.size_drew, size_drewN] at hs1); have lw_1 : w.heap.size < w1.heap.size := (by omega); have mw_1 : w.heap.size < w1.heap.size + 1 := (by omega); have nw_1 : ¬ w.heap.size = w1.heap.size := (by omega); have lwp1_1 : w.heap.size + 1 < w1.heap.size := (by omega); have mwp1_1 : w.heap.size + 1 < w1.heap.size + 1 := (by omega); have nwp1_1 : ¬ w.heap.size + 1 = w1.heap.size := (by omega); have ly_1 : w.heap.size + 1 + 1 < w1.heap.size := (by omega); have ny_1 : ¬ w.heap.size + 1 + 1 = w1.heap.size := (by omega)) | (go_at_call 24; refine (Cmp_c _ _ _ _ (by omega) (by omega) (by omega) (by omega) _).mono ?_; rintro e' w2 ⟨rfl, hb2⟩; have hc2 := old_cell hb2; have hf2 := old_frozen hb2; have hs2 := hb2.size; (try simp only [World.size_alloc, World.size_setCell, World.size_drew, size_drewN] at hs2); have lw_2 : w.heap.size < w2.heap.size := (by omega); have mw_2 : w.heap.size < w2.heap.size + 1 := (by omega); have nw_2 : ¬ w.heap.size = w2.heap.size := (by omega); have lwp1_2 : w.heap.size + 1 < w2.heap.size := (by omega); have mwp1_2 : w.heap.size + 1 < w2.heap.size + 1 := (by omega); have nwp1_2 : ¬ w.heap.size + 1 = w2.heap.size := (by omega); have ly_2 : w.heap.size + 1 + 1 < w2.heap.size := (by omega); have ny_2 : ¬ w.heap.size + 1 + 1 = w2.heap.size := (by omega); have lx_2 : w1.heap.size < w2.heap.size := (by omega); have nx_2 : ¬ w1.heap.size = w2.heap.size := (by omega)) | (go_at_call 13; refine (awake_c _).mono ?_; rintro e' w3 ⟨rfl, hb3⟩; have hc3 := old_cell hb3; have hf3 := old_frozen hb3; have hs3 := hb3.size; (try simp only [World.size_alloc, World.size_setCell, World.size_drew, size_drewN] at hs3); have lw_3 : w.heap.size < w3.heap.size := (by omega); have mw_3 : w.heap.size < w3.heap.size + 1 := (by omega); have nw_3 : ¬ w.heap.size = w3.heap.size := (by omega); have lwp1_3 : w.heap.size + 1 < w3.heap.size := (by omega); have mwp1_3 : w.heap.size + 1 < w3.heap.size + 1 := (by omega); have nwp1_3 : ¬ w.heap.size + 1 = w3.heap.size := (by omega); have ly_3 : w.heap.size + 1 + 1 < w3.heap.size := (by omega); have ny_3 : ¬ w.heap.size + 1 + 1 = w3.heap.size := (by omega)))
        go_ret
        refine ⟨rfl, ?_⟩
        (repeat' (first | (with_reducible exact Below.refl _ _) | (with_reducible refine Below.alloc ?_ ?_ _) | (with_reducible refine below_drewN' ?_ _) | (with_reducible refine Below.drew ?_) | (with_reducible refine Below.setCell ?_ ?_ _) | (with_reducible refine Below.trans ?_ (Below.mono (by with_reducible assumption) ?_)) | go_size))
    · skip
      go_enter Try.func10, Try.ntmps10
      go_wp2_with (first | (go_at_call 18; refine (Sub_c a b c d ha hb hc hd _).mono ?_; rintro e' w1 ⟨rfl, hb1⟩; have hc1 := old_cell hb1; have hf1 := old_frozen hb1; have hs1 := hb1.size; (try simp only [World.size_alloc, World.size_setCell, World.size_drew, size_drewN] at hs1); have lw_1 : w.heap.size < w1.heap.size := (by omega); have mw_1 : w.heap.size < w1.heap.size + 1 := (by omega); have nw_1 : ¬ w.heap.size = w1.heap.size := (by omega); have lwp1_1 : w.heap.size + 1 < w1.heap.size := (by omega); have mwp1_1 : w.heap.size + 1 < w1.heap.size + 1 := (by omega); have nwp1_1 : ¬ w.heap.size + 1 = w1.heap.size := (by omega); have ly_1 : w.heap.size + 1 + 1 < w1.heap.size := (by omega); have ny_1 : ¬ w.heap.size + 1 + 1 = w1.heap.size := (by omega)) | (go_at_call 24; refine (Cmp_c _ _ _ _ (by omega) (by omega) (by omega) (by omega) _).mono ?_; rintro e' w2 ⟨rfl, hb2⟩; have hc2 := old_cell hb2; have hf2 := old_frozen hb2; have hs2 := hb2.size; (try simp only [World.size_alloc, World.size_setCell, World.size_drew, size_drewN] at hs2); have lw_2 : w.heap.size < w2.heap.size := (by omega); have mw_2 : w.heap.size < w2.heap.size + 1 := (by omega); have nw_2 : ¬ w.heap.size = w2.heap.size := (by omega); have lwp1_2 : w.heap.size + 1 < w2.heap.size := (by omega); have mwp1_2 : w.heap.size + 1 < w2.heap.size + 1 := (by omega); have nwp1_2 : ¬ w.heap.size + 1 = w2.heap.size := (by omega); have ly_2 : w.heap.size + 1 + 1 < w2.heap.size := (by omega); have ny_2 : ¬ w.heap.size + 1 + 1 = w2.heap.size := (by omega); have lx_2 : w1.heap.size < w2.heap.size := (by omega); have nx_2 : ¬ w1.heap.size = w2.heap.size := (by omega)) | (go_at_call 13; refine (awake_c _).mono ?_; rintro e' w3 ⟨rfl, hb3⟩; have hc3 := old_cell hb3; have hf3 := old_frozen hb3; have hs3 := hb3.size; (try simp only [World.size_alloc, World.size_setCell, World.size_drew, size_drewN] at hs3); have lw_3 : w.heap.size < w3.heap.size := (by omega); have mw_3 : w.heap.size < w3.heap.size + 1 := (by omega); have nw_3 : ¬ w.heap.size = w3.heap.size := (by omega); have lwp1_3 : w.heap.size + 1 < w3.heap.size := (by omega); have mwp1_3 : w.heap.size + 1 < w3.heap.size + 1 := (by omega); have nwp1_3 : ¬ w.heap.size + 1 = w3.heap.size := (by omega); have ly_3 : w.heap.size + 1 + 1 < w3.heap.size := (by omega); have ny_3 : ¬ w.heap.size + 1 + 1 = w3.heap.size := (by omega)))
      go_ret
      refine ⟨rfl, ?_⟩
      (repeat' (first | (with_reducible exact Below.refl _ _) | (with_reducible refine Below.alloc ?_ ?_ _) | (with_reducible refine below_drewN' ?_ _) | (with_reducible refine Below.drew ?_) | (with_reducible refine Below.setCell ?_ ?_ _) | (with_reducible refine Below.trans ?_ (Below.mono (by with_reducible assumption) ?_)) | go_size))
end Go.Proofs.Ytpoiojacpaglcaa
