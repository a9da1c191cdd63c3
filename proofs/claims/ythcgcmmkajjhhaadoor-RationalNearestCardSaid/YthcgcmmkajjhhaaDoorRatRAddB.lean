/- The reference's Add: unequal signs, the first part less. -/
import Derived.Test.YthcgcmmkajjhhaaDoorRatRAdd0
namespace Go.Proofs.YthcgcmmkajjhhaaDoor
set_option linter.unusedVariables false
set_option linter.unusedSimpArgs false
open Go.RowKit Go.Sort
set_option maxHeartbeats 1000000 in
theorem radd_less (a b c d : Int) (ha : -9223372036854775808 ≤ a ∧ a ≤ 9223372036854775807) (hb : 1 ≤ b ∧ b ≤ 9223372036854775807) (hc : -9223372036854775808 ≤ c ∧ c ≤ 9223372036854775807) (hd : 1 ≤ d ∧ d ≤ 9223372036854775807)
    (k1 : RM.ok a b = true) (k2 : RM.ok c d = true) (sa sc : Bool) (hsa : decide (a < 0) = sa) (hsc : decide (c < 0) = sc) (hss : sa ≠ sc) (hl : RM.lessB ((a.natAbs : Int) * (d / ((Nat.gcd b.natAbs d.natAbs : Nat) : Int))) (c.natAbs * (b / ((Nat.gcd b.natAbs d.natAbs : Nat) : Int))) = true) (w : World) :
    Calls Tryd.prog 19 #[.agg #[.int .i64 a, .int .i64 b], .agg #[.int .i64 c, .int .i64 d]] w fun e w' => e = .returned (.tuple #[.agg #[.int .i64 (RM.addS a b c d).1, .int .i64 (RM.addS a b c d).2.1], .int .i64 (RM.addS a b c d).2.2]) ∧ Below w.heap.size w w' := by
  obtain ⟨g, x, y, e, z, hg, l1, u1, hx, l2, u2, hy, l3, u3, he, l4, u4, hz, l5, u5, hZ, hM⟩ := RM.radd_facts k1 k2 ha.2 hc.2 hb.2 hd.2
  rw [hg, hx, hy] at hl
  have HT := Lib.hid (RM.radd_less l2 l3 hsa hsc hss hl)
  have hX := Lib.hid (hi_mul a.natAbs y (nat_bd' ha) (by omega))
  have hY := Lib.hid (hi_mul c.natAbs x (nat_bd' hc) (by omega))
  have hS : RM.hi64 (a.natAbs * y + c.natAbs * x) ≤ 18446744073709551615 := hi_sum (mul_bd _ _ (nat_bd' ha) (by omega)) (mul_bd _ _ (nat_bd' hc) (by omega))
  have HM := Lib.hid hM
  have HZ := Lib.hid hZ
  clear hM hZ
  have z1 : g ≠ 0 := by omega
  have z2 : e ≠ 0 := by omega
  have tB : b.tdiv g = x := by rw [← hx]; exact Int.tdiv_eq_ediv_of_nonneg (by omega)
  have tD : d.tdiv g = y := by rw [← hy]; exact Int.tdiv_eq_ediv_of_nonneg (by omega)
  have tE : d.tdiv e = z := by rw [← hz]; exact Int.tdiv_eq_ediv_of_nonneg (by omega)
  have wd : IntKind.u64.wrap d = d := wrap_in (by omega)
  have wb : IntKind.u64.wrap b = b := wrap_in (by omega)
  have wx : IntKind.u64.wrap x = x := wrap_in (by omega)
  have wy : IntKind.u64.wrap y = y := wrap_in (by omega)
  have wz : IntKind.u64.wrap z = z := wrap_in (by omega)
  clear hx hy hz
  have x1 : (sa == sc) = false := beq_eq_false_iff_ne.2 hss
  have x2 : (sa != sc) = true := by simp [bne, x1]
  clear hss
  have K0 : (((w.alloc (.cells #[.int .i64 a, .int .i64 b] 23)).alloc (.cells #[.int .i64 c, .int .i64 d] 23)).alloc (.cells #[.int .i64 0, .int .i64 0] 23)).cell? ⟨w.heap.size, 0, none⟩ = some (.int .i64 a) ∧ (((w.alloc (.cells #[.int .i64 a, .int .i64 b] 23)).alloc (.cells #[.int .i64 c, .int .i64 d] 23)).alloc (.cells #[.int .i64 0, .int .i64 0] 23)).cell? ⟨w.heap.size, 1, none⟩ = some (.int .i64 b)
      ∧ (((w.alloc (.cells #[.int .i64 a, .int .i64 b] 23)).alloc (.cells #[.int .i64 c, .int .i64 d] 23)).alloc (.cells #[.int .i64 0, .int .i64 0] 23)).cell? ⟨w.heap.size + 1, 0, none⟩ = some (.int .i64 c) ∧ (((w.alloc (.cells #[.int .i64 a, .int .i64 b] 23)).alloc (.cells #[.int .i64 c, .int .i64 d] 23)).alloc (.cells #[.int .i64 0, .int .i64 0] 23)).cell? ⟨w.heap.size + 1, 1, none⟩ = some (.int .i64 d) := by
    refine ⟨?_, ?_, ?_, ?_⟩ <;> go_simp
  have R0 : Cel (((w.alloc (.cells #[.int .i64 a, .int .i64 b] 23)).alloc (.cells #[.int .i64 c, .int .i64 d] 23)).alloc (.cells #[.int .i64 0, .int .i64 0] 23)) (w.heap.size + 1 + 1) 23 #[.int .i64 0, .int .i64 0] := by
    have := Cel.made ((w.alloc (.cells #[.int .i64 a, .int .i64 b] 23)).alloc (.cells #[.int .i64 c, .int .i64 d] 23)) 23 #[.int .i64 0, .int .i64 0]
    simpa using this
  have B0 : Below w.heap.size w (((w.alloc (.cells #[.int .i64 a, .int .i64 b] 23)).alloc (.cells #[.int .i64 c, .int .i64 d] 23)).alloc (.cells #[.int .i64 0, .int .i64 0] 23)) := (((Below.refl _ _).alloc (Nat.le_refl _) _).alloc (by simp) _).alloc (by simp; omega) _
  have HK0 := Lib.hid K0
  have HR0 := Lib.hid R0
  have HB0 := Lib.hid B0
  clear K0 B0 R0
  go_enter Tryd.func19, Tryd.ntmps19
  go_wp2_with fail
  refine (rvalid_c _ _ (by omega) (by omega) _).mono ?_
  rintro e w1 ⟨rfl, hb1⟩
  have HK1 := Lib.hid (four_below hb1 HK0.out)
  have HR1 := Lib.hid (HR0.out.below hb1)
  have HB1 := Lib.hid (HB0.out.trans (hb1.mono HB0.out.size))
  clear hb1
  obtain ⟨q0, q1, q2, q3⟩ := HK1.out
  go_wp2_with fail
  refine (rvalid_c _ _ (by omega) (by omega) _).mono ?_
  rintro e w2 ⟨rfl, hb2⟩
  have HK2 := Lib.hid (four_below hb2 HK1.out)
  have HR2 := Lib.hid (HR1.out.below hb2)
  have HB2 := Lib.hid (HB1.out.trans (hb2.mono HB1.out.size))
  clear hb2
  clear q0 q1 q2 q3 HK0 HK1 HR0 HR1 HB0 HB1
  obtain ⟨q0, q1, q2, q3⟩ := HK2.out
  have gA : ∀ o a u v, growAt Tryd.prog o a u v = growUpon Tryd.prog u v ((execOp a.eval o).run Tryd.prog u) := fun _ _ _ _ => rfl
  have gV : ∀ u v x w', growUpon Tryd.prog u v (.ok (.value x) w') = (w' = u ∧ x = v) := fun _ _ _ _ => rfl
  have gE : ∀ u v g args w', growUpon Tryd.prog u v (.ok (.enter g args) w') = (w' = u ∧ Calls Tryd.prog g args u (fun e w'' => e = .returned v ∧ Below u.heap.size u w'')) := fun _ _ _ _ _ => rfl
  go_wp2_with fail
  refine (rgcd_b b d (by omega) (by omega) g hg _).mono ?_
  rintro e w3 ⟨rfl, hb3⟩
  have HK3 := Lib.hid (four_below hb3 HK2.out)
  have HR3 := Lib.hid (HR2.out.below hb3)
  have HB3 := Lib.hid (HB2.out.trans (hb3.mono HB2.out.size))
  clear hb3
  clear q0 q1 q2 q3 HK2 HR2 HB2
  go_wp2_with fail
  obtain ⟨q0, q1, q2, q3⟩ := HK3.out
  have r0 := cell_regrown q0
  have r1 := cell_regrown q1
  have r2 := cell_regrown q2
  have r3 := cell_regrown q3
  go_upto_region 4 with fail
  refine wp_region_grow 22 43 #[.int .u64 0, .int .u64 0] (fun v => ∃ x y, v = .agg #[.int .u64 x, .int .u64 y]) (by kernel_rfl) (by kernel_rfl) (by kernel_rfl) alloc_wide (by kernel_rfl) store_wide ?_
  simp only [List.take_succ_cons, List.take_zero]
  (repeat' (refine lexW_step (fun K hK => ?_); simp only [isMade, keptAt]; go_simp; first | (refine hK _ ?_; clear hK K) | (refine ⟨_, fun p => grow_call _ (rmag_b _ (by omega) _) (grow_size _ _), hK _ ?_⟩; clear hK K) | (refine ⟨_, fun p => grow_call _ (times_c _ _ (nat_bd ‹_›) (by omega) _) (grow_size _ _), hK _ ?_⟩; clear hK K)))
  refine lexW_nil (Behind2.behind (ms := [(18, 7), (19, 8)]) (ks := [(7, 40), (8, 49)]) (tail := []) (mk := fun β a => ((a.put (some 7) (ptr (β 18))).put (some 8) (ptr (β 19)))) (by kernel_rfl) (by kernel_rfl) (by kernel_rfl) (fun _ _ => by kernel_rfl) ⟨?_, ?_, ?_⟩)
  · intro pq hpq
    simp only [List.mem_cons, List.not_mem_nil, or_false] at hpq
    rcases hpq with rfl | rfl <;> exact ⟨_, _, rfl⟩
  · intro ip hip
    simp only [List.mem_cons, List.not_mem_nil, or_false] at hip
    rcases hip with rfl | rfl <;> simp
  intro β w4 hb4 hn hu
  clear hu
  unfold wpList
  simp only [ptr]
  have CX := Lib.hid (show Cel w4 (β 18) 43 #[.int .u64 (RM.hi64 (a.natAbs * y)), .int .u64 (RM.lo64 (a.natAbs * y))] from (hn (18, 7) (by simp)).2)
  have CY := Lib.hid (show Cel w4 (β 19) 43 #[.int .u64 (RM.hi64 (c.natAbs * x)), .int .u64 (RM.lo64 (c.natAbs * x))] from (hn (19, 8) (by simp)).2)
  clear hn
  generalize β 18 = X7 at *
  generalize β 19 = Y8 at *
  clear β
  have HK4 := Lib.hid (four_below hb4 HK3.out)
  have HR4 := Lib.hid (HR3.out.below hb4)
  have HB4 := Lib.hid (HB3.out.trans (hb4.mono HB3.out.size))
  clear hb4 q0 q1 q2 q3 r0 r1 r2 r3 HK3 HR3 HB3
  generalize hN : a * y + c * x = N at *
  clear hN
  generalize (a.natAbs : Int) * y = X at *
  generalize (c.natAbs : Int) * x = Y at *
  obtain ⟨q0, q1, q2, q3⟩ := HK4.out
  have r0 := cell_regrown q0
  have r1 := cell_regrown q1
  have r2 := cell_regrown q2
  have r3 := cell_regrown q3
  have s0 := cell_regrown (show w4.cell? ⟨X7, 0, none⟩ = some (.int .u64 (RM.hi64 X)) from CX.out.cell 0)
  have s1 := cell_regrown (show w4.cell? ⟨X7, 1, none⟩ = some (.int .u64 (RM.lo64 X)) from CX.out.cell 1)
  have s2 := cell_regrown (show w4.cell? ⟨Y8, 0, none⟩ = some (.int .u64 (RM.hi64 Y)) from CY.out.cell 0)
  have s3 := cell_regrown (show w4.cell? ⟨Y8, 1, none⟩ = some (.int .u64 (RM.lo64 Y)) from CY.out.cell 1)
  go_upto_region 5 with fail
  refine wp_region_grow 9 43 #[.int .u64 0, .int .u64 0] (fun v => ∃ x y, v = .agg #[.int .u64 x, .int .u64 y]) (by kernel_rfl) (by kernel_rfl) (by kernel_rfl) alloc_wide (by kernel_rfl) store_wide ?_
  simp only [List.take_succ_cons, List.take_zero]
  (repeat' (refine lexW_step (fun K hK => ?_); simp only [isMade, keptAt]; go_simp; first | (refine hK _ ?_; clear hK K) | (refine ⟨_, fun p => grow_call _ (rplus_c _ _ hX.out hY.out hS _) (grow_size _ _), hK _ ?_⟩; clear hK K)))
  refine lexW_nil (Behind2.behind (ms := [(6, 9)]) (ks := [(9, 52)]) (tail := []) (mk := fun β a => (a.put (some 9) (ptr (β 6)))) (by kernel_rfl) (by kernel_rfl) (by kernel_rfl) (fun _ _ => by kernel_rfl) ⟨?_, ?_, ?_⟩)
  · intro pq hpq
    simp only [List.mem_cons, List.not_mem_nil, or_false] at hpq
    rcases hpq with rfl <;> exact ⟨_, _, rfl⟩
  · intro ip hip
    simp only [List.mem_cons, List.not_mem_nil, or_false] at hip
    rcases hip with rfl <;> simp
  intro β w5 hb5 hn hu
  clear hu
  unfold wpList
  simp only [ptr]
  have CT5 := Lib.hid (show Cel w5 (β 6) 43 #[.int .u64 (RM.hi64 (X + Y)), .int .u64 (RM.lo64 (X + Y))] from (hn (6, 9) (by simp)).2)
  have hlt : w4.heap.size ≤ β 6 := (hn (6, 9) (by simp)).1
  clear hn
  generalize β 6 = T at *
  clear β
  have hT0 : w.heap.size + 1 + 1 < T := Nat.lt_of_lt_of_le HR4.out.lt hlt
  have hxt : X7 ≠ T := by have := CX.out.lt; omega
  have hyt : Y8 ≠ T := by have := CY.out.lt; omega
  have CX5 := Lib.hid (CX.out.below hb5)
  have CY5 := Lib.hid (CY.out.below hb5)
  have HK5 := Lib.hid (four_below hb5 HK4.out)
  have HR5 := Lib.hid (HR4.out.below hb5)
  have HB5 := Lib.hid (HB4.out.trans (hb5.mono HB4.out.size))
  clear hb5 q0 q1 q2 q3 r0 r1 r2 r3 HK4 HR4 HB4
  clear s0 s1 s2 s3 hlt CX CY
  have s0 : w5.cell? ⟨X7, 0, none⟩ = some (.int .u64 (RM.hi64 X)) := CX5.out.cell 0
  have s1 : w5.cell? ⟨X7, 1, none⟩ = some (.int .u64 (RM.lo64 X)) := CX5.out.cell 1
  have s2 : w5.cell? ⟨Y8, 0, none⟩ = some (.int .u64 (RM.hi64 Y)) := CY5.out.cell 0
  have s3 : w5.cell? ⟨Y8, 1, none⟩ = some (.int .u64 (RM.lo64 Y)) := CY5.out.cell 1
  obtain ⟨q0, q1, q2, q3⟩ := HK5.out
  go_wp2_with fail
  refine (rless_c X Y hX.out hY.out _).mono ?_
  rintro e' w6 ⟨rfl, hb6⟩
  have CX6 := Lib.hid (CX5.out.below hb6)
  have CY6 := Lib.hid (CY5.out.below hb6)
  have CT6 := Lib.hid (CT5.out.below hb6)
  have HK6 := Lib.hid (four_below hb6 HK5.out)
  have HR6 := Lib.hid (HR5.out.below hb6)
  have HB6 := Lib.hid (HB5.out.trans (hb6.mono HB5.out.size))
  clear hb6 q0 q1 q2 q3 s0 s1 s2 s3 HK5 HR5 HB5 CX5 CY5 CT5
  rw [hl]
  have s0 : w6.cell? ⟨X7, 0, none⟩ = some (.int .u64 (RM.hi64 X)) := CX6.out.cell 0
  have s1 : w6.cell? ⟨X7, 1, none⟩ = some (.int .u64 (RM.lo64 X)) := CX6.out.cell 1
  have s2 : w6.cell? ⟨Y8, 0, none⟩ = some (.int .u64 (RM.hi64 Y)) := CY6.out.cell 0
  have s3 : w6.cell? ⟨Y8, 1, none⟩ = some (.int .u64 (RM.lo64 Y)) := CY6.out.cell 1
  obtain ⟨q0, q1, q2, q3⟩ := HK6.out
  have v0 : w6.cell? ⟨T, 0, none⟩ = some (.int .u64 (RM.hi64 (X + Y))) := CT6.out.cell 0
  have v1 : w6.cell? ⟨T, 1, none⟩ = some (.int .u64 (RM.lo64 (X + Y))) := CT6.out.cell 1
  have v2 : w6.frozen? ⟨T, 0, none⟩ = false := CT6.out.free 0
  have v3 : w6.frozen? ⟨T, 1, none⟩ = false := CT6.out.free 1
  go_wp2_with fail
  have hsub : X ≤ Y := by simp only [RM.lessB, decide_eq_true_eq, decide_eq_false_iff_not] at hl; omega
  have r2 := cell_regrown q2
  have r0 := cell_regrown s0
  have r1 := cell_regrown s1
  have r3 := cell_regrown s2
  have r4 := cell_regrown s3
  clear r0 r1 r2 r3 r4
  have n0 : T ≠ w.heap.size := by omega
  have n1 : T ≠ w.heap.size + 1 := by omega
  have hXT : X7 ≠ T := hxt
  have hYT : Y8 ≠ T := hyt
  have k0 : w6.cell? ⟨X7, 0, none⟩ = some (.int .u64 (RM.hi64 X)) ∧ w6.cell? ⟨X7, 1, none⟩ = some (.int .u64 (RM.lo64 X)) ∧ w6.cell? ⟨Y8, 0, none⟩ = some (.int .u64 (RM.hi64 Y)) ∧ w6.cell? ⟨Y8, 1, none⟩ = some (.int .u64 (RM.lo64 Y)) ∧ w6.cell? ⟨w.heap.size + 1, 0, none⟩ = some (.int .i64 c) := ⟨s0, s1, s2, s3, q2⟩
  go_upto_region 8 with fail
  go_region_held3 (fun w' => w'.cell? ⟨X7, 0, none⟩ = some (.int .u64 (RM.hi64 X)) ∧ w'.cell? ⟨X7, 1, none⟩ = some (.int .u64 (RM.lo64 X)) ∧ w'.cell? ⟨Y8, 0, none⟩ = some (.int .u64 (RM.hi64 Y)) ∧ w'.cell? ⟨Y8, 1, none⟩ = some (.int .u64 (RM.lo64 Y)) ∧ w'.cell? ⟨w.heap.size + 1, 0, none⟩ = some (.int .i64 c)) (first | exact k2 | exact k1 | exact k0) (first | (go_at_call 30; refine (rminus_c Y X hY.out hX.out hsub _).mono ?_; rintro e' w7 ⟨rfl, hb⟩; have hb7 : Below w6.heap.size w6 w7 := (by first | exact hb | exact (below_drewN' (Below.refl _ _) _).trans hb | exact ((Below.refl _ _).drew).trans hb | exact (below_drewN' ((Below.refl _ _).drew) _).trans hb); clear hb; have CT7 := Lib.hid (CT6.out.below hb7); have CX7 := Lib.hid (CX6.out.below hb7); have CY7 := Lib.hid (CY6.out.below hb7); have HK7 := Lib.hid (four_below hb7 HK6.out); have HR7 := Lib.hid (HR6.out.below hb7); have HB7 := Lib.hid (HB6.out.trans (hb7.mono HB6.out.size)); clear hb7 v0 v1 v2 v3; have v0 : w7.cell? ⟨T, 0, none⟩ = some (.int .u64 (RM.hi64 (X + Y))) := CT7.out.cell 0; have v1 : w7.cell? ⟨T, 1, none⟩ = some (.int .u64 (RM.lo64 (X + Y))) := CT7.out.cell 1; have v2 : w7.frozen? ⟨T, 0, none⟩ = false := CT7.out.free 0; have v3 : w7.frozen? ⟨T, 1, none⟩ = false := CT7.out.free 1; have k1 : w7.cell? ⟨X7, 0, none⟩ = some (.int .u64 (RM.hi64 X)) ∧ w7.cell? ⟨X7, 1, none⟩ = some (.int .u64 (RM.lo64 X)) ∧ w7.cell? ⟨Y8, 0, none⟩ = some (.int .u64 (RM.hi64 Y)) ∧ w7.cell? ⟨Y8, 1, none⟩ = some (.int .u64 (RM.lo64 Y)) ∧ w7.cell? ⟨w.heap.size + 1, 0, none⟩ = some (.int .i64 c) := ⟨CX7.out.cell 0, CX7.out.cell 1, CY7.out.cell 0, CY7.out.cell 1, HK7.out.2.2.1⟩; have k2 : ((w7.setCell ⟨T, 0, none⟩ (.int .u64 (RM.hi64 (Y - X)))).setCell ⟨T, 1, none⟩ (.int .u64 (RM.lo64 (Y - X)))).cell? ⟨X7, 0, none⟩ = some (.int .u64 (RM.hi64 X)) ∧ ((w7.setCell ⟨T, 0, none⟩ (.int .u64 (RM.hi64 (Y - X)))).setCell ⟨T, 1, none⟩ (.int .u64 (RM.lo64 (Y - X)))).cell? ⟨X7, 1, none⟩ = some (.int .u64 (RM.lo64 X)) ∧ ((w7.setCell ⟨T, 0, none⟩ (.int .u64 (RM.hi64 (Y - X)))).setCell ⟨T, 1, none⟩ (.int .u64 (RM.lo64 (Y - X)))).cell? ⟨Y8, 0, none⟩ = some (.int .u64 (RM.hi64 Y)) ∧ ((w7.setCell ⟨T, 0, none⟩ (.int .u64 (RM.hi64 (Y - X)))).setCell ⟨T, 1, none⟩ (.int .u64 (RM.lo64 (Y - X)))).cell? ⟨Y8, 1, none⟩ = some (.int .u64 (RM.lo64 Y)) ∧ ((w7.setCell ⟨T, 0, none⟩ (.int .u64 (RM.hi64 (Y - X)))).setCell ⟨T, 1, none⟩ (.int .u64 (RM.lo64 (Y - X)))).cell? ⟨w.heap.size + 1, 0, none⟩ = some (.int .i64 c) := ⟨((CX7.out.far (p := ⟨T, 0, none⟩) hXT _).far (p := ⟨T, 1, none⟩) hXT _).cell 0, ((CX7.out.far (p := ⟨T, 0, none⟩) hXT _).far (p := ⟨T, 1, none⟩) hXT _).cell 1, ((CY7.out.far (p := ⟨T, 0, none⟩) hYT _).far (p := ⟨T, 1, none⟩) hYT _).cell 0, ((CY7.out.far (p := ⟨T, 0, none⟩) hYT _).far (p := ⟨T, 1, none⟩) hYT _).cell 1, (four_set (four_set HK7.out ⟨T, 0, none⟩ _ n0 n1) ⟨T, 1, none⟩ _ n0 n1).2.2.1⟩))
  clear k0 k1 k2 s0 s1 s2 s3 hl hxt hyt hXT hYT q0 q1 q2 q3 HK6 HR6 HB6 CX6 CY6 CT6 CX7 CY7
  go_upto_region 10 with fail
  have n0 : T ≠ w.heap.size := by omega
  have n1 : T ≠ w.heap.size + 1 := by omega
  have n2 : w.heap.size + 1 + 1 ≠ T := by omega
  have CT8 : Cel ((w7.setCell ⟨T, 0, none⟩ (.int .u64 (RM.hi64 (Y - X)))).setCell ⟨T, 1, none⟩ (.int .u64 (RM.lo64 (Y - X)))) T 43 #[.int .u64 (RM.hi64 (Y - X)), .int .u64 (RM.lo64 (Y - X))] := by
    have := (CT7.out.store 0 (.int .u64 (RM.hi64 (Y - X)))).store 1 (.int .u64 (RM.lo64 (Y - X)))
    simpa using this
  have HK8 := Lib.hid (four_set (four_set HK7.out ⟨T, 0, none⟩ (.int .u64 (RM.hi64 (Y - X))) n0 n1) ⟨T, 1, none⟩ (.int .u64 (RM.lo64 (Y - X))) n0 n1)
  have HR8 := Lib.hid ((HR7.out.far (p := ⟨T, 0, none⟩) n2 (.int .u64 (RM.hi64 (Y - X)))).far (p := ⟨T, 1, none⟩) n2 (.int .u64 (RM.lo64 (Y - X))))
  have HB8 : Below w.heap.size w ((w7.setCell ⟨T, 0, none⟩ (.int .u64 (RM.hi64 (Y - X)))).setCell ⟨T, 1, none⟩ (.int .u64 (RM.lo64 (Y - X)))) := (HB7.out.setCell (by dsimp only; omega) _).setCell (by dsimp only; omega) _
  have HB8 := Lib.hid HB8
  generalize ((w7.setCell ⟨T, 0, none⟩ (.int .u64 (RM.hi64 (Y - X)))).setCell ⟨T, 1, none⟩ (.int .u64 (RM.lo64 (Y - X)))) = w8 at *
  clear HK7 HR7 HB7 CT7 n0 n1 n2 v0 v1 v2 v3
  have hT1 := HT.out.1
  have bt : 0 ≤ RM.hi64 (Y - X) ∧ RM.hi64 (Y - X) ≤ 18446744073709551615 := by have h1 := hX.out; have h2 := hY.out; unfold RM.hi64 at *; omega
  rw [hT1] at CT8 bt
  have HS := Lib.hid HT.out.2
  clear HT hT1 hX hY hS hsub
  have CT8 := Lib.hid CT8
  generalize ht : ((N.natAbs : Nat) : Int) = t at *
  have hm : 0 ≤ t % g ∧ t % g ≤ 18446744073709551615 := ⟨Int.emod_nonneg _ z1, by have := Int.emod_lt_of_pos t (by omega : 0 < g); omega⟩
  by_cases hN : N = 0
  · have HE := Lib.hid (HZ.out hN)
    have et : t = 0 := by omega
    have o1 : RM.hi64 t < e := by rw [et]; unfold RM.hi64; omega
    have heq := wideeq_run
    have f0 := Lib.hid (show RM.hi64 t = 0 by rw [et]; rfl)
    have f1 := Lib.hid (show RM.lo64 t = 0 by rw [et]; rfl)
    clear hN et
    have t0 := CT8.out.cell 0
    have t1 := CT8.out.cell 1
    simp only [List.getElem?_toArray, List.getElem?_cons_zero, List.getElem?_cons_succ] at t0 t1
    obtain ⟨q0, q1, q2, q3⟩ := HK8.out
    go_wp2_with fail
    refine (rest_c t g bt (by omega) _).mono ?_
    rintro e' w9 ⟨rfl, hb9⟩
    have HK9 := Lib.hid (four_below hb9 HK8.out)
    have HR9 := Lib.hid (HR8.out.below hb9)
    have CT9 := Lib.hid (CT8.out.below hb9)
    have HB9 := Lib.hid (HB8.out.trans (hb9.mono HB8.out.size))
    clear hb9 q0 q1 q2 q3 t0 t1 HK8 HR8 CT8 HB8
    have t0 := CT9.out.cell 0
    have t1 := CT9.out.cell 1
    simp only [List.getElem?_toArray, List.getElem?_cons_zero, List.getElem?_cons_succ] at t0 t1
    obtain ⟨q0, q1, q2, q3⟩ := HK9.out
    go_wp2_with fail
    refine (rgcd_b (t % g) g hm (by omega) e he _).mono ?_
    rintro e' w10 ⟨rfl, hb10⟩
    have HK10 := Lib.hid (four_below hb10 HK9.out)
    have HR10 := Lib.hid (HR9.out.below hb10)
    have CT10 := Lib.hid (CT9.out.below hb10)
    have HB10 := Lib.hid (HB9.out.trans (hb10.mono HB9.out.size))
    clear hb10 q0 q1 q2 q3 t0 t1 HK9 HR9 CT9 HB9
    have t0 := CT10.out.cell 0
    have t1 := CT10.out.cell 1
    simp only [List.getElem?_toArray, List.getElem?_cons_zero, List.getElem?_cons_succ] at t0 t1
    obtain ⟨q0, q1, q2, q3⟩ := HK10.out
    go_wp2_with fail
    refine (over_ok t e bt (by omega) o1 _).mono ?_
    rintro e' w11 ⟨rfl, hb11⟩
    have HK11 := Lib.hid (four_below hb11 HK10.out)
    have HR11 := Lib.hid (HR10.out.below hb11)
    have CT11 := Lib.hid (CT10.out.below hb11)
    have HB11 := Lib.hid (HB10.out.trans (hb11.mono HB10.out.size))
    clear hb11 q0 q1 q2 q3 t0 t1 HK10 HR10 CT10 HB10
    have t0 := CT11.out.cell 0
    have t1 := CT11.out.cell 1
    simp only [List.getElem?_toArray, List.getElem?_cons_zero, List.getElem?_cons_succ] at t0 t1
    obtain ⟨q0, q1, q2, q3⟩ := HK11.out
    go_wp2_with fail
    have r0 := cell_regrown q0
    have r1 := cell_regrown q1
    have r2 := cell_regrown q2
    have r3 := cell_regrown q3
    go_upto_region 12 with fail
    refine wp_region_grow 13 43 #[.int .u64 0, .int .u64 0] (fun v => ∃ x y, v = .agg #[.int .u64 x, .int .u64 y]) (by kernel_rfl) (by kernel_rfl) (by kernel_rfl) alloc_wide (by kernel_rfl) store_wide ?_
    simp only [List.take_succ_cons, List.take_zero]
    (repeat' (refine lexW_step (fun K hK => ?_); simp only [isMade, keptAt]; go_simp; first | (refine hK _ ?_; clear hK K) | (refine ⟨_, fun p => grow_call _ (times_c _ _ (by omega) (by omega) _) (grow_size _ _), hK _ ?_⟩; clear hK K)))
    refine lexW_nil (Behind2.behind (ms := [(11, 15)]) (ks := [(15, 97)]) (tail := []) (mk := fun β a => (a.put (some 15) (ptr (β 11)))) (by kernel_rfl) (by kernel_rfl) (by kernel_rfl) (fun _ _ => by kernel_rfl) ⟨?_, ?_, ?_⟩)
    · intro pq hpq
      simp only [List.mem_cons, List.not_mem_nil, or_false] at hpq
      rcases hpq with rfl <;> exact ⟨_, _, rfl⟩
    · intro ip hip
      simp only [List.mem_cons, List.not_mem_nil, or_false] at hip
      rcases hip with rfl <;> simp
    intro β w12 hb12 hn hu
    clear hu
    unfold wpList
    simp only [ptr]
    have CD := Lib.hid (show Cel w12 (β 11) 43 #[.int .u64 (RM.hi64 (x * z)), .int .u64 (RM.lo64 (x * z))] from (hn (11, 15) (by simp)).2)
    clear hn
    generalize β 11 = D15 at *
    clear β
    have HR12 := Lib.hid (HR11.out.below hb12)
    have CT12 := Lib.hid (CT11.out.below hb12)
    have HB12 := Lib.hid (HB11.out.trans (hb12.mono HB11.out.size))
    clear hb12 q0 q1 q2 q3 r0 r1 r2 r3 t0 t1 HK11 HR11 CT11 HB11
    have t0 := CT12.out.cell 0
    have t1 := CT12.out.cell 1
    have d0 := CD.out.cell 0
    have d1 := CD.out.cell 1
    simp only [List.getElem?_toArray, List.getElem?_cons_zero, List.getElem?_cons_succ] at t0 t1 d0 d1
    have v0 : w12.cell? ⟨w.heap.size + 1 + 1, 0, none⟩ = some (.int .i64 0) := HR12.out.cell 0
    have v1 : w12.cell? ⟨w.heap.size + 1 + 1, 1, none⟩ = some (.int .i64 0) := HR12.out.cell 1
    have v2 : w12.frozen? ⟨w.heap.size + 1 + 1, 0, none⟩ = false := HR12.out.free 0
    have v3 : w12.frozen? ⟨w.heap.size + 1 + 1, 1, none⟩ = false := HR12.out.free 1
    rw [f0.out] at t0
    rw [f1.out] at t1
    go_wp2_with fail
    refine bodyPost_ret (v := .tuple #[.agg #[.int .i64 0, .int .i64 1], .int .i64 0]) ?_ rfl ⟨?_, ?_⟩
    · simp [results, Tryd.results19, go_sem, *]
    · rw [HE.out]
    · (repeat' (first | (with_reducible exact HB12.out) | (with_reducible refine Below.setCell ?_ ?_ _) | (with_reducible refine Below.drew ?_) | go_size))
  have hne : ¬ (RM.hi64 t = 0 ∧ RM.lo64 t = 0) := fun h => hN (by have := RM.hi_lo t; omega)
  have hs := HS.out hN
  have HE0 := Lib.hid HM.out
  clear hN
  by_cases o1 : RM.hi64 t < e
  · by_cases o2 : 0 < RM.hi64 (x * z)
    · have HE := Lib.hid (HE0.out.symm.trans (RM.madeS_far _ (t / e) (x * z) (.inr o2)))
      have o3 : decide (0 < RM.hi64 (x * z)) = true := decide_eq_true o2
      have hneq := widene_run (RM.hi64 t) (RM.lo64 t) hne
      clear HE0 hne hs
      have t0 := CT8.out.cell 0
      have t1 := CT8.out.cell 1
      simp only [List.getElem?_toArray, List.getElem?_cons_zero, List.getElem?_cons_succ] at t0 t1
      obtain ⟨q0, q1, q2, q3⟩ := HK8.out
      go_wp2_with fail
      refine (rest_c t g bt (by omega) _).mono ?_
      rintro e' w9 ⟨rfl, hb9⟩
      have HK9 := Lib.hid (four_below hb9 HK8.out)
      have HR9 := Lib.hid (HR8.out.below hb9)
      have CT9 := Lib.hid (CT8.out.below hb9)
      have HB9 := Lib.hid (HB8.out.trans (hb9.mono HB8.out.size))
      clear hb9 q0 q1 q2 q3 t0 t1 HK8 HR8 CT8 HB8
      have t0 := CT9.out.cell 0
      have t1 := CT9.out.cell 1
      simp only [List.getElem?_toArray, List.getElem?_cons_zero, List.getElem?_cons_succ] at t0 t1
      obtain ⟨q0, q1, q2, q3⟩ := HK9.out
      go_wp2_with fail
      refine (rgcd_b (t % g) g hm (by omega) e he _).mono ?_
      rintro e' w10 ⟨rfl, hb10⟩
      have HK10 := Lib.hid (four_below hb10 HK9.out)
      have HR10 := Lib.hid (HR9.out.below hb10)
      have CT10 := Lib.hid (CT9.out.below hb10)
      have HB10 := Lib.hid (HB9.out.trans (hb10.mono HB9.out.size))
      clear hb10 q0 q1 q2 q3 t0 t1 HK9 HR9 CT9 HB9
      have t0 := CT10.out.cell 0
      have t1 := CT10.out.cell 1
      simp only [List.getElem?_toArray, List.getElem?_cons_zero, List.getElem?_cons_succ] at t0 t1
      obtain ⟨q0, q1, q2, q3⟩ := HK10.out
      go_wp2_with fail
      refine (over_ok t e bt (by omega) o1 _).mono ?_
      rintro e' w11 ⟨rfl, hb11⟩
      have HK11 := Lib.hid (four_below hb11 HK10.out)
      have HR11 := Lib.hid (HR10.out.below hb11)
      have CT11 := Lib.hid (CT10.out.below hb11)
      have HB11 := Lib.hid (HB10.out.trans (hb11.mono HB10.out.size))
      clear hb11 q0 q1 q2 q3 t0 t1 HK10 HR10 CT10 HB10
      have t0 := CT11.out.cell 0
      have t1 := CT11.out.cell 1
      simp only [List.getElem?_toArray, List.getElem?_cons_zero, List.getElem?_cons_succ] at t0 t1
      obtain ⟨q0, q1, q2, q3⟩ := HK11.out
      go_wp2_with fail
      have r0 := cell_regrown q0
      have r1 := cell_regrown q1
      have r2 := cell_regrown q2
      have r3 := cell_regrown q3
      go_upto_region 12 with fail
      refine wp_region_grow 13 43 #[.int .u64 0, .int .u64 0] (fun v => ∃ x y, v = .agg #[.int .u64 x, .int .u64 y]) (by kernel_rfl) (by kernel_rfl) (by kernel_rfl) alloc_wide (by kernel_rfl) store_wide ?_
      simp only [List.take_succ_cons, List.take_zero]
      (repeat' (refine lexW_step (fun K hK => ?_); simp only [isMade, keptAt]; go_simp; first | (refine hK _ ?_; clear hK K) | (refine ⟨_, fun p => grow_call _ (times_c _ _ (by omega) (by omega) _) (grow_size _ _), hK _ ?_⟩; clear hK K)))
      refine lexW_nil (Behind2.behind (ms := [(11, 15)]) (ks := [(15, 97)]) (tail := []) (mk := fun β a => (a.put (some 15) (ptr (β 11)))) (by kernel_rfl) (by kernel_rfl) (by kernel_rfl) (fun _ _ => by kernel_rfl) ⟨?_, ?_, ?_⟩)
      · intro pq hpq
        simp only [List.mem_cons, List.not_mem_nil, or_false] at hpq
        rcases hpq with rfl <;> exact ⟨_, _, rfl⟩
      · intro ip hip
        simp only [List.mem_cons, List.not_mem_nil, or_false] at hip
        rcases hip with rfl <;> simp
      intro β w12 hb12 hn hu
      clear hu
      unfold wpList
      simp only [ptr]
      have CD := Lib.hid (show Cel w12 (β 11) 43 #[.int .u64 (RM.hi64 (x * z)), .int .u64 (RM.lo64 (x * z))] from (hn (11, 15) (by simp)).2)
      clear hn
      generalize β 11 = D15 at *
      clear β
      have HR12 := Lib.hid (HR11.out.below hb12)
      have CT12 := Lib.hid (CT11.out.below hb12)
      have HB12 := Lib.hid (HB11.out.trans (hb12.mono HB11.out.size))
      clear hb12 q0 q1 q2 q3 r0 r1 r2 r3 t0 t1 HK11 HR11 CT11 HB11
      have t0 := CT12.out.cell 0
      have t1 := CT12.out.cell 1
      have d0 := CD.out.cell 0
      have d1 := CD.out.cell 1
      simp only [List.getElem?_toArray, List.getElem?_cons_zero, List.getElem?_cons_succ] at t0 t1 d0 d1
      have v0 : w12.cell? ⟨w.heap.size + 1 + 1, 0, none⟩ = some (.int .i64 0) := HR12.out.cell 0
      have v1 : w12.cell? ⟨w.heap.size + 1 + 1, 1, none⟩ = some (.int .i64 0) := HR12.out.cell 1
      have v2 : w12.frozen? ⟨w.heap.size + 1 + 1, 0, none⟩ = false := HR12.out.free 0
      have v3 : w12.frozen? ⟨w.heap.size + 1 + 1, 1, none⟩ = false := HR12.out.free 1
      go_wp2_with fail
      refine bodyPost_ret (v := .tuple #[.agg #[.int .i64 0, .int .i64 0], .int .i64 2]) ?_ rfl ⟨?_, ?_⟩
      · simp [results, Tryd.results19, go_sem, *]
      · rw [HE.out]
      · (repeat' (first | (with_reducible exact HB12.out) | (with_reducible refine Below.setCell ?_ ?_ _) | (with_reducible refine Below.drew ?_) | go_size))
    · have o3 : RM.hi64 (x * z) = 0 := by have := RM.hi_nonneg (Int.mul_nonneg (by omega : 0 ≤ x) (by omega : 0 ≤ z)); omega
      have o4 : RM.lo64 (x * z) = x * z := RM.lo_all o3
      have HE := Lib.hid HE0.out
      rw [← hs] at HE
      have hneq := widene_run (RM.hi64 t) (RM.lo64 t) hne
      have bq : 0 ≤ t / e ∧ t / e ≤ 18446744073709551615 := RM.div_bd bt l4 o1
      have bz : 0 ≤ x * z ∧ x * z ≤ 18446744073709551615 := ⟨Int.mul_nonneg (by omega) (by omega), by rw [← o4]; have := RM.lo_bd (x * z); omega⟩
      clear HE0 hne hs o2
      have O3 := Lib.hid o3
      have O4 := Lib.hid o4
      clear o3 o4
      have t0 := CT8.out.cell 0
      have t1 := CT8.out.cell 1
      simp only [List.getElem?_toArray, List.getElem?_cons_zero, List.getElem?_cons_succ] at t0 t1
      obtain ⟨q0, q1, q2, q3⟩ := HK8.out
      go_wp2_with fail
      refine (rest_c t g bt (by omega) _).mono ?_
      rintro e' w9 ⟨rfl, hb9⟩
      have HK9 := Lib.hid (four_below hb9 HK8.out)
      have HR9 := Lib.hid (HR8.out.below hb9)
      have CT9 := Lib.hid (CT8.out.below hb9)
      have HB9 := Lib.hid (HB8.out.trans (hb9.mono HB8.out.size))
      clear hb9 q0 q1 q2 q3 t0 t1 HK8 HR8 CT8 HB8
      have t0 := CT9.out.cell 0
      have t1 := CT9.out.cell 1
      simp only [List.getElem?_toArray, List.getElem?_cons_zero, List.getElem?_cons_succ] at t0 t1
      obtain ⟨q0, q1, q2, q3⟩ := HK9.out
      go_wp2_with fail
      refine (rgcd_b (t % g) g hm (by omega) e he _).mono ?_
      rintro e' w10 ⟨rfl, hb10⟩
      have HK10 := Lib.hid (four_below hb10 HK9.out)
      have HR10 := Lib.hid (HR9.out.below hb10)
      have CT10 := Lib.hid (CT9.out.below hb10)
      have HB10 := Lib.hid (HB9.out.trans (hb10.mono HB9.out.size))
      clear hb10 q0 q1 q2 q3 t0 t1 HK9 HR9 CT9 HB9
      have t0 := CT10.out.cell 0
      have t1 := CT10.out.cell 1
      simp only [List.getElem?_toArray, List.getElem?_cons_zero, List.getElem?_cons_succ] at t0 t1
      obtain ⟨q0, q1, q2, q3⟩ := HK10.out
      go_wp2_with fail
      refine (over_ok t e bt (by omega) o1 _).mono ?_
      rintro e' w11 ⟨rfl, hb11⟩
      have HK11 := Lib.hid (four_below hb11 HK10.out)
      have HR11 := Lib.hid (HR10.out.below hb11)
      have CT11 := Lib.hid (CT10.out.below hb11)
      have HB11 := Lib.hid (HB10.out.trans (hb11.mono HB10.out.size))
      clear hb11 q0 q1 q2 q3 t0 t1 HK10 HR10 CT10 HB10
      have t0 := CT11.out.cell 0
      have t1 := CT11.out.cell 1
      simp only [List.getElem?_toArray, List.getElem?_cons_zero, List.getElem?_cons_succ] at t0 t1
      obtain ⟨q0, q1, q2, q3⟩ := HK11.out
      go_wp2_with fail
      have r0 := cell_regrown q0
      have r1 := cell_regrown q1
      have r2 := cell_regrown q2
      have r3 := cell_regrown q3
      go_upto_region 12 with fail
      refine wp_region_grow 13 43 #[.int .u64 0, .int .u64 0] (fun v => ∃ x y, v = .agg #[.int .u64 x, .int .u64 y]) (by kernel_rfl) (by kernel_rfl) (by kernel_rfl) alloc_wide (by kernel_rfl) store_wide ?_
      simp only [List.take_succ_cons, List.take_zero]
      (repeat' (refine lexW_step (fun K hK => ?_); simp only [isMade, keptAt]; go_simp; first | (refine hK _ ?_; clear hK K) | (refine ⟨_, fun p => grow_call _ (times_c _ _ (by omega) (by omega) _) (grow_size _ _), hK _ ?_⟩; clear hK K)))
      refine lexW_nil (Behind2.behind (ms := [(11, 15)]) (ks := [(15, 97)]) (tail := []) (mk := fun β a => (a.put (some 15) (ptr (β 11)))) (by kernel_rfl) (by kernel_rfl) (by kernel_rfl) (fun _ _ => by kernel_rfl) ⟨?_, ?_, ?_⟩)
      · intro pq hpq
        simp only [List.mem_cons, List.not_mem_nil, or_false] at hpq
        rcases hpq with rfl <;> exact ⟨_, _, rfl⟩
      · intro ip hip
        simp only [List.mem_cons, List.not_mem_nil, or_false] at hip
        rcases hip with rfl <;> simp
      intro β w12 hb12 hn hu
      clear hu
      unfold wpList
      simp only [ptr]
      have CD := Lib.hid (show Cel w12 (β 11) 43 #[.int .u64 (RM.hi64 (x * z)), .int .u64 (RM.lo64 (x * z))] from (hn (11, 15) (by simp)).2)
      clear hn
      generalize β 11 = D15 at *
      clear β
      have HR12 := Lib.hid (HR11.out.below hb12)
      have CT12 := Lib.hid (CT11.out.below hb12)
      have HB12 := Lib.hid (HB11.out.trans (hb12.mono HB11.out.size))
      clear hb12 q0 q1 q2 q3 r0 r1 r2 r3 t0 t1 HK11 HR11 CT11 HB11
      have t0 := CT12.out.cell 0
      have t1 := CT12.out.cell 1
      have d0 := CD.out.cell 0
      have d1 := CD.out.cell 1
      simp only [List.getElem?_toArray, List.getElem?_cons_zero, List.getElem?_cons_succ] at t0 t1 d0 d1
      have v0 : w12.cell? ⟨w.heap.size + 1 + 1, 0, none⟩ = some (.int .i64 0) := HR12.out.cell 0
      have v1 : w12.cell? ⟨w.heap.size + 1 + 1, 1, none⟩ = some (.int .i64 0) := HR12.out.cell 1
      have v2 : w12.frozen? ⟨w.heap.size + 1 + 1, 0, none⟩ = false := HR12.out.free 0
      have v3 : w12.frozen? ⟨w.heap.size + 1 + 1, 1, none⟩ = false := HR12.out.free 1
      rw [O3.out] at d0
      rw [O4.out] at d1
      clear v0 v1 v2 v3
      go_wp2_with fail
      refine (made_c sc (t / e) (x * z) bq bz _).mono ?_
      rintro e' w13 ⟨rfl, hb13⟩
      rw [HE.out]
      have HR13 := Lib.hid (HR12.out.below hb13)
      have HB13 := Lib.hid (HB12.out.trans (hb13.mono HB12.out.size))
      clear hb13 d0 d1 t0 t1
      have v0 : w13.cell? ⟨w.heap.size + 1 + 1, 0, none⟩ = some (.int .i64 0) := HR13.out.cell 0
      have v1 : w13.cell? ⟨w.heap.size + 1 + 1, 1, none⟩ = some (.int .i64 0) := HR13.out.cell 1
      have v2 : w13.frozen? ⟨w.heap.size + 1 + 1, 0, none⟩ = false := HR13.out.free 0
      have v3 : w13.frozen? ⟨w.heap.size + 1 + 1, 1, none⟩ = false := HR13.out.free 1
      go_wp2_with fail
      refine bodyPost_ret (v := .tuple #[.agg #[.int .i64 (RM.addS a b c d).1, .int .i64 (RM.addS a b c d).2.1], .int .i64 (RM.addS a b c d).2.2]) ?_ rfl ⟨?_, ?_⟩
      · simp [results, Tryd.results19, go_sem, *]
      · rfl
      · (repeat' (first | (with_reducible exact HB13.out) | (with_reducible refine Below.setCell ?_ ?_ _) | (with_reducible refine Below.drew ?_) | go_size))
  · have HE := Lib.hid (HE0.out.symm.trans (RM.madeS_far _ (t / e) (x * z) (.inl (RM.far_of l4 o1))))
    have hneq := widene_run (RM.hi64 t) (RM.lo64 t) hne
    clear HE0 hne hs
    have t0 := CT8.out.cell 0
    have t1 := CT8.out.cell 1
    simp only [List.getElem?_toArray, List.getElem?_cons_zero, List.getElem?_cons_succ] at t0 t1
    obtain ⟨q0, q1, q2, q3⟩ := HK8.out
    go_wp2_with fail
    refine (rest_c t g bt (by omega) _).mono ?_
    rintro e' w9 ⟨rfl, hb9⟩
    have HK9 := Lib.hid (four_below hb9 HK8.out)
    have HR9 := Lib.hid (HR8.out.below hb9)
    have CT9 := Lib.hid (CT8.out.below hb9)
    have HB9 := Lib.hid (HB8.out.trans (hb9.mono HB8.out.size))
    clear hb9 q0 q1 q2 q3 t0 t1 HK8 HR8 CT8 HB8
    have t0 := CT9.out.cell 0
    have t1 := CT9.out.cell 1
    simp only [List.getElem?_toArray, List.getElem?_cons_zero, List.getElem?_cons_succ] at t0 t1
    obtain ⟨q0, q1, q2, q3⟩ := HK9.out
    go_wp2_with fail
    refine (rgcd_b (t % g) g hm (by omega) e he _).mono ?_
    rintro e' w10 ⟨rfl, hb10⟩
    have HK10 := Lib.hid (four_below hb10 HK9.out)
    have HR10 := Lib.hid (HR9.out.below hb10)
    have CT10 := Lib.hid (CT9.out.below hb10)
    have HB10 := Lib.hid (HB9.out.trans (hb10.mono HB9.out.size))
    clear hb10 q0 q1 q2 q3 t0 t1 HK9 HR9 CT9 HB9
    have t0 := CT10.out.cell 0
    have t1 := CT10.out.cell 1
    simp only [List.getElem?_toArray, List.getElem?_cons_zero, List.getElem?_cons_succ] at t0 t1
    obtain ⟨q0, q1, q2, q3⟩ := HK10.out
    go_wp2_with fail
    refine (over_big t e bt (by omega) (by omega) _).mono ?_
    rintro e' w11 ⟨rfl, hb11⟩
    have HK11 := Lib.hid (four_below hb11 HK10.out)
    have HR11 := Lib.hid (HR10.out.below hb11)
    have CT11 := Lib.hid (CT10.out.below hb11)
    have HB11 := Lib.hid (HB10.out.trans (hb11.mono HB10.out.size))
    clear hb11 q0 q1 q2 q3 t0 t1 HK10 HR10 CT10 HB10
    have t0 := CT11.out.cell 0
    have t1 := CT11.out.cell 1
    simp only [List.getElem?_toArray, List.getElem?_cons_zero, List.getElem?_cons_succ] at t0 t1
    obtain ⟨q0, q1, q2, q3⟩ := HK11.out
    go_wp2_with fail
    have r0 := cell_regrown q0
    have r1 := cell_regrown q1
    have r2 := cell_regrown q2
    have r3 := cell_regrown q3
    go_upto_region 12 with fail
    refine wp_region_grow 13 43 #[.int .u64 0, .int .u64 0] (fun v => ∃ x y, v = .agg #[.int .u64 x, .int .u64 y]) (by kernel_rfl) (by kernel_rfl) (by kernel_rfl) alloc_wide (by kernel_rfl) store_wide ?_
    simp only [List.take_succ_cons, List.take_zero]
    (repeat' (refine lexW_step (fun K hK => ?_); simp only [isMade, keptAt]; go_simp; first | (refine hK _ ?_; clear hK K) | (refine ⟨_, fun p => grow_call _ (times_c _ _ (by omega) (by omega) _) (grow_size _ _), hK _ ?_⟩; clear hK K)))
    refine lexW_nil (Behind2.behind (ms := [(11, 15)]) (ks := [(15, 97)]) (tail := []) (mk := fun β a => (a.put (some 15) (ptr (β 11)))) (by kernel_rfl) (by kernel_rfl) (by kernel_rfl) (fun _ _ => by kernel_rfl) ⟨?_, ?_, ?_⟩)
    · intro pq hpq
      simp only [List.mem_cons, List.not_mem_nil, or_false] at hpq
      rcases hpq with rfl <;> exact ⟨_, _, rfl⟩
    · intro ip hip
      simp only [List.mem_cons, List.not_mem_nil, or_false] at hip
      rcases hip with rfl <;> simp
    intro β w12 hb12 hn hu
    clear hu
    unfold wpList
    simp only [ptr]
    have CD := Lib.hid (show Cel w12 (β 11) 43 #[.int .u64 (RM.hi64 (x * z)), .int .u64 (RM.lo64 (x * z))] from (hn (11, 15) (by simp)).2)
    clear hn
    generalize β 11 = D15 at *
    clear β
    have HR12 := Lib.hid (HR11.out.below hb12)
    have CT12 := Lib.hid (CT11.out.below hb12)
    have HB12 := Lib.hid (HB11.out.trans (hb12.mono HB11.out.size))
    clear hb12 q0 q1 q2 q3 r0 r1 r2 r3 t0 t1 HK11 HR11 CT11 HB11
    have t0 := CT12.out.cell 0
    have t1 := CT12.out.cell 1
    have d0 := CD.out.cell 0
    have d1 := CD.out.cell 1
    simp only [List.getElem?_toArray, List.getElem?_cons_zero, List.getElem?_cons_succ] at t0 t1 d0 d1
    have v0 : w12.cell? ⟨w.heap.size + 1 + 1, 0, none⟩ = some (.int .i64 0) := HR12.out.cell 0
    have v1 : w12.cell? ⟨w.heap.size + 1 + 1, 1, none⟩ = some (.int .i64 0) := HR12.out.cell 1
    have v2 : w12.frozen? ⟨w.heap.size + 1 + 1, 0, none⟩ = false := HR12.out.free 0
    have v3 : w12.frozen? ⟨w.heap.size + 1 + 1, 1, none⟩ = false := HR12.out.free 1
    go_wp2_with fail
    refine bodyPost_ret (v := .tuple #[.agg #[.int .i64 0, .int .i64 0], .int .i64 2]) ?_ rfl ⟨?_, ?_⟩
    · simp [results, Tryd.results19, go_sem, *]
    · rw [HE.out]
    · (repeat' (first | (with_reducible exact HB12.out) | (with_reducible refine Below.setCell ?_ ?_ _) | (with_reducible refine Below.drew ?_) | go_size))
end Go.Proofs.YthcgcmmkajjhhaaDoor
