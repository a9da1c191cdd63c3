/- The reference's Mul. -/
import Derived.Test.YthcgcmmkajjhhaaDoorRatRCmp2
import Derived.Test.YthcgcmmkajjhhaaDoorRatRMulM
import Derived.Test.YthcgcmmkajjhhaaDoorRatDiv
import Derived.Test.YthcgcmmkajjhhaaDoorRatMade
namespace Go.Proofs.YthcgcmmkajjhhaaDoor
set_option linter.unusedVariables false
set_option linter.unusedSimpArgs false
open Go.RowKit Go.Sort

namespace RM
theorem hi_nonneg {x : Int} (h : 0 ≤ x) : 0 ≤ hi64 x := by unfold hi64; omega
theorem lo_all {x : Int} (h : hi64 x = 0) : lo64 x = x := by unfold hi64 at h; unfold lo64; omega
end RM
theorem wrap_in {x : Int} (h : 0 ≤ x ∧ x ≤ 18446744073709551615) : IntKind.u64.wrap x = x := by simp only [IntKind.wrap_u64]; omega
theorem rgcd_b (a0 b0 : Int) (ha : 0 ≤ a0 ∧ a0 ≤ 18446744073709551615) (hb : 0 ≤ b0 ∧ b0 ≤ 18446744073709551615) (g : Int) (hg : ((Nat.gcd a0.natAbs b0.natAbs : Nat) : Int) = g) (w : World) :
    Calls Tryd.prog 39 #[.int .u64 a0, .int .u64 b0] w fun e w' => e = .returned (.int .u64 g) ∧ Below w.heap.size w w' :=
  (rgcd_c a0 b0 ha hb w).mono fun _ _ ⟨h1, n, h2⟩ => ⟨by rw [h1, hg], by rw [h2]; exact below_drewN' (Below.refl _ _) n⟩

set_option maxHeartbeats 1000000 in
theorem rmul_more (a b c d : Int) (ha : -9223372036854775808 ≤ a ∧ a ≤ 9223372036854775807) (hb : 1 ≤ b ∧ b ≤ 9223372036854775807) (hc : -9223372036854775808 ≤ c ∧ c ≤ 9223372036854775807) (hd : 1 ≤ d ∧ d ≤ 9223372036854775807)
    (k1 : RM.ok a b = true) (k2 : RM.ok c d = true) (w : World) :
    Calls Tryd.prog 17 #[.agg #[.int .i64 a, .int .i64 b], .agg #[.int .i64 c, .int .i64 d]] w fun e w' => e = .returned (.tuple #[.agg #[.int .i64 (RM.mulS a b c d).1, .int .i64 (RM.mulS a b c d).2.1], .int .i64 (RM.mulS a b c d).2.2]) ∧ Below w.heap.size w w' := by
  obtain ⟨g1, g2, hg1, hg2, l1, u1, l2, u2, hA, hC, hB, hD, hM⟩ := RM.rmul_facts k1 k2 ha.2 hc.2 hb.2 hd.2
  have HM := Lib.hid hM
  clear hM
  have K0 : (((w.alloc (.cells #[.int .i64 a, .int .i64 b] 23)).alloc (.cells #[.int .i64 c, .int .i64 d] 23)).alloc (.cells #[.int .i64 0, .int .i64 0] 23)).cell? ⟨w.heap.size, 0, none⟩ = some (.int .i64 a) ∧ (((w.alloc (.cells #[.int .i64 a, .int .i64 b] 23)).alloc (.cells #[.int .i64 c, .int .i64 d] 23)).alloc (.cells #[.int .i64 0, .int .i64 0] 23)).cell? ⟨w.heap.size, 1, none⟩ = some (.int .i64 b)
      ∧ (((w.alloc (.cells #[.int .i64 a, .int .i64 b] 23)).alloc (.cells #[.int .i64 c, .int .i64 d] 23)).alloc (.cells #[.int .i64 0, .int .i64 0] 23)).cell? ⟨w.heap.size + 1, 0, none⟩ = some (.int .i64 c) ∧ (((w.alloc (.cells #[.int .i64 a, .int .i64 b] 23)).alloc (.cells #[.int .i64 c, .int .i64 d] 23)).alloc (.cells #[.int .i64 0, .int .i64 0] 23)).cell? ⟨w.heap.size + 1, 1, none⟩ = some (.int .i64 d) := by
    refine ⟨?_, ?_, ?_, ?_⟩ <;> go_simp
  have R0 : Cel (((w.alloc (.cells #[.int .i64 a, .int .i64 b] 23)).alloc (.cells #[.int .i64 c, .int .i64 d] 23)).alloc (.cells #[.int .i64 0, .int .i64 0] 23)) (w.heap.size + 1 + 1) 23 #[.int .i64 0, .int .i64 0] := by
    have := Cel.made ((w.alloc (.cells #[.int .i64 a, .int .i64 b] 23)).alloc (.cells #[.int .i64 c, .int .i64 d] 23)) 23 #[.int .i64 0, .int .i64 0]
    simpa using this
  have B0 : Below w.heap.size w (((w.alloc (.cells #[.int .i64 a, .int .i64 b] 23)).alloc (.cells #[.int .i64 c, .int .i64 d] 23)).alloc (.cells #[.int .i64 0, .int .i64 0] 23)) := (((Below.refl _ _).alloc (Nat.le_refl _) _).alloc (by simp) _).alloc (by simp; omega) _
  have HK0 := Lib.hid K0
  have HR0 := Lib.hid R0
  have HB0 := Lib.hid B0
  clear K0 B0 R0
  go_enter Tryd.func17, Tryd.ntmps17
  go_wp2_with fail
  refine (rvalid_c _ _ (by omega) (by omega) _).mono ?_
  rintro e w1 ⟨rfl, hb1⟩
  have HK1 := Lib.hid (four_below hb1 HK0.out)
  have HR1 := Lib.hid (HR0.out.below hb1)
  have HB1 := Lib.hid (HB0.out.trans (hb1.mono HB0.out.size))
  clear hb1
  obtain ⟨q0, q1, q2, q3⟩ := HK1.out
  go_wp2_with fail
  refine (rvalid_c _ _ (by omega) (by omega) _).mono ?_
  rintro e w2 ⟨rfl, hb2⟩
  have HK2 := Lib.hid (four_below hb2 HK1.out)
  have HR2 := Lib.hid (HR1.out.below hb2)
  have HB2 := Lib.hid (HB1.out.trans (hb2.mono HB1.out.size))
  clear hb2 q0 q1 q2 q3 HK0 HK1 HB0 HB1 HR0 HR1
  obtain ⟨q0, q1, q2, q3⟩ := HK2.out
  have gA : ∀ o a u v, growAt Tryd.prog o a u v = growUpon Tryd.prog u v ((execOp a.eval o).run Tryd.prog u) := fun _ _ _ _ => rfl
  have gV : ∀ u v x w', growUpon Tryd.prog u v (.ok (.value x) w') = (w' = u ∧ x = v) := fun _ _ _ _ => rfl
  have gE : ∀ u v g args w', growUpon Tryd.prog u v (.ok (.enter g args) w') = (w' = u ∧ Calls Tryd.prog g args u (fun e w'' => e = .returned v ∧ Below u.heap.size u w'')) := fun _ _ _ _ _ => rfl
  have z1 : g1 ≠ 0 := by omega
  have z2 : g2 ≠ 0 := by omega
  have wA : IntKind.u64.wrap (a.natAbs / g1) = a.natAbs / g1 := wrap_in (by omega)
  have wC : IntKind.u64.wrap (c.natAbs / g2) = c.natAbs / g2 := wrap_in (by omega)
  have wB : IntKind.u64.wrap (b / g2) = b / g2 := wrap_in (by omega)
  have wD : IntKind.u64.wrap (d / g1) = d / g1 := wrap_in (by omega)
  have tB : b.tdiv g2 = b / g2 := Int.tdiv_eq_ediv_of_nonneg (by omega)
  have tD : d.tdiv g1 = d / g1 := Int.tdiv_eq_ediv_of_nonneg (by omega)
  have wd : IntKind.u64.wrap d = d := by simp only [IntKind.wrap_u64]; omega
  have wb : IntKind.u64.wrap b = b := by simp only [IntKind.wrap_u64]; omega
  go_wp2_with fail
  have r0 := cell_regrown q0
  have r1 := cell_regrown q1
  have r2 := cell_regrown q2
  have r3 := cell_regrown q3
  go_upto_region 3 with fail
  refine wp_region_grow 16 43 #[.int .u64 0, .int .u64 0] (fun v => ∃ x y, v = .agg #[.int .u64 x, .int .u64 y]) (by kernel_rfl) (by kernel_rfl) (by kernel_rfl) alloc_wide (by kernel_rfl) store_wide ?_
  simp only [List.take_succ_cons, List.take_zero]
  (repeat' (refine lexW_step (fun K hK => ?_); simp only [isMade, keptAt]; go_simp; first | (refine hK _ ?_; clear hK K) | (refine ⟨_, fun p => grow_call _ (rmag_b _ (by omega) _) (grow_size _ _), hK _ ?_⟩; clear hK K) | (refine ⟨_, fun p => grow_call _ (rgcd_b _ _ (nat_bd ‹_›) (by omega) _ ‹_› _) (grow_size _ _), hK _ ?_⟩; clear hK K)))
  refine lexW_nil (Behind2.behind (ms := []) (ks := []) (tail := []) (mk := fun _ a => a) (by kernel_rfl) (by kernel_rfl) (by kernel_rfl) (fun _ _ => by kernel_rfl) ⟨?_, ?_, ?_⟩)
  · intro _ h; cases h
  · intro _ h; cases h
  intro _ w3 hb3 _ _
  have HK3 := Lib.hid (four_below hb3 HK2.out)
  have HR3 := Lib.hid (HR2.out.below hb3)
  have HB3 := Lib.hid (HB2.out.trans (hb3.mono HB2.out.size))
  clear hb3 q0 q1 q2 q3 r0 r1 r2 r3 HK2 HR2 HB2
  obtain ⟨q0, q1, q2, q3⟩ := HK3.out
  have r0 := cell_regrown q0
  have r1 := cell_regrown q1
  have r2 := cell_regrown q2
  have r3 := cell_regrown q3
  unfold wpList
  go_upto_region 4 with fail
  refine wp_region_grow 13 43 #[.int .u64 0, .int .u64 0] (fun v => ∃ x y, v = .agg #[.int .u64 x, .int .u64 y]) (by kernel_rfl) (by kernel_rfl) (by kernel_rfl) alloc_wide (by kernel_rfl) store_wide ?_
  simp only [List.take_succ_cons, List.take_zero]
  (repeat' (refine lexW_step (fun K hK => ?_); simp only [isMade, keptAt]; go_simp; first | (refine hK _ ?_; clear hK K) | (refine ⟨_, fun p => grow_call _ (rmag_b _ (by omega) _) (grow_size _ _), hK _ ?_⟩; clear hK K) | (refine ⟨_, fun p => grow_call _ (times_c _ _ (by omega) (by omega) _) (grow_size _ _), hK _ ?_⟩; clear hK K)))
  refine lexW_nil (Behind2.behind (ms := [(11, 8)]) (ks := [(8, 43)]) (tail := []) (mk := fun β a => (a.put (some 8) (ptr (β 11)))) (by kernel_rfl) (by kernel_rfl) (by kernel_rfl) (fun _ _ => by kernel_rfl) ⟨?_, ?_, ?_⟩)
  · intro pq hpq
    simp only [List.mem_cons, List.not_mem_nil, or_false] at hpq
    rcases hpq with rfl <;> exact ⟨_, _, rfl⟩
  · intro ip hip
    simp only [List.mem_cons, List.not_mem_nil, or_false] at hip
    rcases hip with rfl <;> simp
  intro β w4 hb4 hn hu
  clear hu
  unfold wpList
  simp only [ptr]
  have C4 := Lib.hid (show Cel w4 (β 11) 43 #[.int .u64 (RM.hi64 (a.natAbs / g1 * (c.natAbs / g2))), .int .u64 (RM.lo64 (a.natAbs / g1 * (c.natAbs / g2)))] from (hn (11, 8) (by simp)).2)
  clear hn
  generalize β 11 = G at *
  clear β
  have HK4 := Lib.hid (four_below hb4 HK3.out)
  have HR4 := Lib.hid (HR3.out.below hb4)
  have HB4 := Lib.hid (HB3.out.trans (hb4.mono HB3.out.size))
  clear hb4 q0 q1 q2 q3 r0 r1 r2 r3 HK3 HR3 HB3
  obtain ⟨q0, q1, q2, q3⟩ := HK4.out
  have r0 := cell_regrown q0
  have r1 := cell_regrown q1
  have r2 := cell_regrown q2
  have r3 := cell_regrown q3
  go_upto_region 5 with fail
  refine wp_region_grow 13 43 #[.int .u64 0, .int .u64 0] (fun v => ∃ x y, v = .agg #[.int .u64 x, .int .u64 y]) (by kernel_rfl) (by kernel_rfl) (by kernel_rfl) alloc_wide (by kernel_rfl) store_wide ?_
  simp only [List.take_succ_cons, List.take_zero]
  (repeat' (refine lexW_step (fun K hK => ?_); simp only [isMade, keptAt]; go_simp; first | (refine hK _ ?_; clear hK K) | (refine ⟨_, fun p => grow_call _ (rmag_b _ (by omega) _) (grow_size _ _), hK _ ?_⟩; clear hK K) | (refine ⟨_, fun p => grow_call _ (times_c _ _ (by omega) (by omega) _) (grow_size _ _), hK _ ?_⟩; clear hK K)))
  refine lexW_nil (Behind2.behind (ms := [(11, 9)]) (ks := [(9, 54)]) (tail := []) (mk := fun β a => (a.put (some 9) (ptr (β 11)))) (by kernel_rfl) (by kernel_rfl) (by kernel_rfl) (fun _ _ => by kernel_rfl) ⟨?_, ?_, ?_⟩)
  · intro pq hpq
    simp only [List.mem_cons, List.not_mem_nil, or_false] at hpq
    rcases hpq with rfl <;> exact ⟨_, _, rfl⟩
  · intro ip hip
    simp only [List.mem_cons, List.not_mem_nil, or_false] at hip
    rcases hip with rfl <;> simp
  intro β w5 hb5 hn hu
  clear hu
  unfold wpList
  simp only [ptr]
  have C5 := Lib.hid (show Cel w5 (β 11) 43 #[.int .u64 (RM.hi64 (b / g2 * (d / g1))), .int .u64 (RM.lo64 (b / g2 * (d / g1)))] from (hn (11, 9) (by simp)).2)
  clear hn
  generalize β 11 = H at *
  clear β
  have C6 := Lib.hid (C4.out.below hb5)
  have HK5 := Lib.hid (four_below hb5 HK4.out)
  have HR5 := Lib.hid (HR4.out.below hb5)
  have HB5 := Lib.hid (HB4.out.trans (hb5.mono HB4.out.size))
  clear hb5 q0 q1 q2 q3 r0 r1 r2 r3 HK4 HR4 HB4 C4
  obtain ⟨q0, q1, q2, q3⟩ := HK5.out
  have bN : 0 ≤ RM.hi64 (a.natAbs / g1 * (c.natAbs / g2)) := RM.hi_nonneg (Int.mul_nonneg hA.1 hC.1)
  have bD : 0 ≤ RM.hi64 (b / g2 * (d / g1)) := RM.hi_nonneg (Int.mul_nonneg (by omega) (by omega))
  generalize (a.natAbs : Int) / g1 * (c.natAbs / g2) = N at *
  generalize b / g2 * (d / g1) = D at *
  have x0 : w5.cell? ⟨G, 0, none⟩ = some (.int .u64 (RM.hi64 N)) := C6.out.cell 0
  have x1 : w5.cell? ⟨G, 1, none⟩ = some (.int .u64 (RM.lo64 N)) := C6.out.cell 1
  have y0 : w5.cell? ⟨H, 0, none⟩ = some (.int .u64 (RM.hi64 D)) := C5.out.cell 0
  have y1 : w5.cell? ⟨H, 1, none⟩ = some (.int .u64 (RM.lo64 D)) := C5.out.cell 1
  have v0 : w5.cell? ⟨w.heap.size + 1 + 1, 0, none⟩ = some (.int .i64 0) := HR5.out.cell 0
  have v1 : w5.cell? ⟨w.heap.size + 1 + 1, 1, none⟩ = some (.int .i64 0) := HR5.out.cell 1
  have v2 : w5.frozen? ⟨w.heap.size + 1 + 1, 0, none⟩ = false := HR5.out.free 0
  have v3 : w5.frozen? ⟨w.heap.size + 1 + 1, 1, none⟩ = false := HR5.out.free 1
  clear C5 C6 wA wB wC wD tB tD hA hB hC hD hg1 hg2
  by_cases f1 : 0 < RM.hi64 N
  · have HE := Lib.hid (HM.out.symm.trans (RM.madeS_far _ N D (.inl f1)))
    have e1 : decide (RM.hi64 N > 0) = true := decide_eq_true f1
    have e2 : decide (0 < RM.hi64 N) = true := decide_eq_true f1
    clear f1
    go_wp2_with fail
    refine bodyPost_ret (v := .tuple #[.agg #[.int .i64 0, .int .i64 0], .int .i64 2]) ?_ rfl ⟨?_, ?_⟩
    · simp [results, Tryd.results17, go_sem, *]
    · rw [HE.out]
    · (repeat' (first | (with_reducible exact HB5.out) | (with_reducible refine Below.setCell ?_ ?_ _) | (with_reducible refine Below.drew ?_) | go_size))
  by_cases f2 : 0 < RM.hi64 D
  · have HE := Lib.hid (HM.out.symm.trans (RM.madeS_far _ N D (.inr f2)))
    have e1 : RM.hi64 N = 0 := by omega
    have e2 : decide (0 < RM.hi64 D) = true := decide_eq_true f2
    clear f1 f2
    rw [e1] at x0
    go_wp2_with fail
    refine bodyPost_ret (v := .tuple #[.agg #[.int .i64 0, .int .i64 0], .int .i64 2]) ?_ rfl ⟨?_, ?_⟩
    · simp [results, Tryd.results17, go_sem, *]
    · rw [HE.out]
    · (repeat' (first | (with_reducible exact HB5.out) | (with_reducible refine Below.setCell ?_ ?_ _) | (with_reducible refine Below.drew ?_) | go_size))
  · have e1 : RM.hi64 N = 0 := by omega
    have e2 : RM.hi64 D = 0 := by omega
    rw [e1] at x0
    rw [e2] at y0
    rw [RM.lo_all e1] at x1
    rw [RM.lo_all e2] at y1
    have bN2 : 0 ≤ N ∧ N ≤ 18446744073709551615 := by unfold RM.hi64 at e1; omega
    have bD2 : 0 ≤ D ∧ D ≤ 18446744073709551615 := by unfold RM.hi64 at e2; omega
    clear bN bD e1 e2 f1 f2
    have HM' := HM.out
    rcases hN : decide (0 < N) with _ | _
    all_goals
      rw [hN] at HM'
    · simp only [Bool.false_and] at HM'
      have HE := Lib.hid HM'
      clear HM' HM
      go_wp2_with fail
      refine (made_c _ N D bN2 bD2 _).mono ?_
      rintro e w6 ⟨rfl, hb6⟩
      rw [HE.out]
      have HR6 := HR5.out.below hb6
      have HB6 := Lib.hid (HB5.out.trans (hb6.mono HB5.out.size))
      clear hb6 v0 v1 v2 v3 q0 q1 q2 q3 x0 x1 y0 y1
      have v0 : w6.cell? ⟨w.heap.size + 1 + 1, 0, none⟩ = some (.int .i64 0) := HR6.cell 0
      have v1 : w6.cell? ⟨w.heap.size + 1 + 1, 1, none⟩ = some (.int .i64 0) := HR6.cell 1
      have v2 : w6.frozen? ⟨w.heap.size + 1 + 1, 0, none⟩ = false := HR6.free 0
      have v3 : w6.frozen? ⟨w.heap.size + 1 + 1, 1, none⟩ = false := HR6.free 1
      clear HR6
      go_wp2_with fail
      refine bodyPost_ret (v := .tuple #[.agg #[.int .i64 (RM.mulS a b c d).1, .int .i64 (RM.mulS a b c d).2.1], .int .i64 (RM.mulS a b c d).2.2]) ?_ rfl ⟨rfl, ?_⟩
      · simp [results, Tryd.results17, go_sem, *]
      · (repeat' (first | (with_reducible exact HB6.out) | (with_reducible refine Below.setCell ?_ ?_ _) | (with_reducible refine Below.drew ?_) | go_size))
    · simp only [Bool.true_and] at HM'
      have HE := Lib.hid HM'
      clear HM' HM
      go_wp2_with fail
      refine (made_c (decide (a < 0) != decide (c < 0)) N D bN2 bD2 _).mono ?_
      rintro e w6 ⟨rfl, hb6⟩
      rw [HE.out]
      have HR6 := HR5.out.below hb6
      have HB6 := Lib.hid (HB5.out.trans (hb6.mono HB5.out.size))
      clear hb6 v0 v1 v2 v3 q0 q1 q2 q3 x0 x1 y0 y1
      have v0 : w6.cell? ⟨w.heap.size + 1 + 1, 0, none⟩ = some (.int .i64 0) := HR6.cell 0
      have v1 : w6.cell? ⟨w.heap.size + 1 + 1, 1, none⟩ = some (.int .i64 0) := HR6.cell 1
      have v2 : w6.frozen? ⟨w.heap.size + 1 + 1, 0, none⟩ = false := HR6.free 0
      have v3 : w6.frozen? ⟨w.heap.size + 1 + 1, 1, none⟩ = false := HR6.free 1
      clear HR6
      go_wp2_with fail
      refine bodyPost_ret (v := .tuple #[.agg #[.int .i64 (RM.mulS a b c d).1, .int .i64 (RM.mulS a b c d).2.1], .int .i64 (RM.mulS a b c d).2.2]) ?_ rfl ⟨rfl, ?_⟩
      · simp [results, Tryd.results17, go_sem, *]
      · (repeat' (first | (with_reducible exact HB6.out) | (with_reducible refine Below.setCell ?_ ?_ _) | (with_reducible refine Below.drew ?_) | go_size))
end Go.Proofs.YthcgcmmkajjhhaaDoor
