/- The law RationalOps. -/
import Derived.Test.YtpoiojacpaglcaaRatRSub
namespace Go.Proofs.Ytpoiojacpaglcaa
set_option linter.unusedVariables false
set_option linter.unusedSimpArgs false
open Go.RowKit Go.Sort
theorem alloc_rat (o : Oper) (a : Act) (w : World) (h : o.op = .alloc 23) : (execOp a.eval o).run Try.prog w = .ok (.value (ptr w.heap.size)) (w.alloc (.cells #[.int .i64 0, .int .i64 0] 23)) := by
  obtain ⟨dst, op, ty, pos, after, guard⟩ := o
  simp only at h
  subst h
  go_simp
  rfl
theorem store_rat (o : Oper) (a : Act) (w : World) (p q : Tmp) (B : Nat) (ho : o.op = .store 23 (.tmp p) (.tmp q)) (hp : a.tmps.getD p undef = ptr B) (hw : w.heap[B]? = some (.cells #[.int .i64 0, .int .i64 0] 23 (0, 0)))
    (hq : ∃ x y, a.tmps.getD q undef = .agg #[.int .i64 x, .int .i64 y]) : ∃ w', (execOp a.eval o).run Try.prog w = .ok .skip w' ∧ w.grownBy w' (some B) ∧ w'.heap[B]? = some (.cells (a.tmps.getD q undef).cells 23 (0, 0)) := by
  obtain ⟨x, y, hq⟩ := hq
  exact store_run o a w p q B _ _ ho hp hw hq (by kernel_rfl) rfl (by simp [Value.oneCell'])
theorem ratrefl_run (x y : Int) (u : World) : (binOp .neq 23 (.agg #[.int .i64 x, .int .i64 y]) (.agg #[.int .i64 x, .int .i64 y])).run Try.prog u = .ok (.bool false) u := by go_simp
set_option maxHeartbeats 1000000 in
theorem lawOps_c (a b c d : Int) (ha : -9223372036854775808 ≤ a ∧ a ≤ 9223372036854775807) (hb : -9223372036854775808 ≤ b ∧ b ≤ 9223372036854775807) (hc : -9223372036854775808 ≤ c ∧ c ≤ 9223372036854775807) (hd : -9223372036854775808 ≤ d ∧ d ≤ 9223372036854775807) (w : World) :
    Calls Try.prog 5 #[.agg #[.int .i64 a, .int .i64 b], .agg #[.int .i64 c, .int .i64 d]] w fun e w' => e = .returned (.bool true) ∧ Below w.heap.size w w' := by
  have gA : ∀ o a u v, growAt Try.prog o a u v = growUpon Try.prog u v ((execOp a.eval o).run Try.prog u) := fun _ _ _ _ => rfl
  have gV : ∀ u v x w', growUpon Try.prog u v (.ok (.value x) w') = (w' = u ∧ x = v) := fun _ _ _ _ => rfl
  have gE : ∀ u v g args w', growUpon Try.prog u v (.ok (.enter g args) w') = (w' = u ∧ Calls Try.prog g args u (fun e w'' => e = .returned v ∧ Below u.heap.size u w'')) := fun _ _ _ _ _ => rfl
  have hneq := ratrefl_run
  have K0 : ((w.alloc (.cells #[.int .i64 a, .int .i64 b] 23)).alloc (.cells #[.int .i64 c, .int .i64 d] 23)).cell? ⟨w.heap.size, 0, none⟩ = some (.int .i64 a) ∧ ((w.alloc (.cells #[.int .i64 a, .int .i64 b] 23)).alloc (.cells #[.int .i64 c, .int .i64 d] 23)).cell? ⟨w.heap.size, 1, none⟩ = some (.int .i64 b)
      ∧ ((w.alloc (.cells #[.int .i64 a, .int .i64 b] 23)).alloc (.cells #[.int .i64 c, .int .i64 d] 23)).cell? ⟨w.heap.size + 1, 0, none⟩ = some (.int .i64 c) ∧ ((w.alloc (.cells #[.int .i64 a, .int .i64 b] 23)).alloc (.cells #[.int .i64 c, .int .i64 d] 23)).cell? ⟨w.heap.size + 1, 1, none⟩ = some (.int .i64 d) := by
    refine ⟨?_, ?_, ?_, ?_⟩ <;> go_simp
  have B0 : Below w.heap.size w ((w.alloc (.cells #[.int .i64 a, .int .i64 b] 23)).alloc (.cells #[.int .i64 c, .int .i64 d] 23)) := ((Below.refl _ _).alloc (Nat.le_refl _) _).alloc (by simp) _
  have HK0 := Lib.hid K0
  have HB0 := Lib.hid B0
  clear K0 B0
  go_enter Try.func5, Try.ntmps5
  go_wp2_with fail
  refine (Add_c a b c d ha hb hc hd _).mono ?_
  rintro e w1 ⟨rfl, hb1⟩
  have HK1 := Lib.hid (four_below hb1 HK0.out)
  have HB1 := Lib.hid (HB0.out.trans (hb1.mono HB0.out.size))
  clear hb1 HK0 HB0
  go_upto_region 2 with fail
  have nG : w.heap.size + 1 < w1.heap.size := World.block_lt_of_cell? w1 _ HK1.out.2.2.1
  have HK2 := Lib.hid (four_alloc HK1.out (.cells #[.int .i64 (RM.addS a b c d).1, .int .i64 (RM.addS a b c d).2.1] 23))
  have HB2 : Below w.heap.size w (w1.alloc (.cells #[.int .i64 (RM.addS a b c d).1, .int .i64 (RM.addS a b c d).2.1] 23)) := HB1.out.alloc (by omega) _
  have HB2 := Lib.hid HB2
  have CG2 := Lib.hid (Cel.made w1 23 #[.int .i64 (RM.addS a b c d).1, .int .i64 (RM.addS a b c d).2.1])
  generalize w1.alloc (.cells #[.int .i64 (RM.addS a b c d).1, .int .i64 (RM.addS a b c d).2.1] 23) = w2 at *
  clear HK1 HB1
  generalize w1.heap.size = G at *
  obtain ⟨q0, q1, q2, q3⟩ := HK2.out
  go_wp2_with fail
  refine (radd_c a b c d ha hb hc hd _).mono ?_
  rintro e w3 ⟨rfl, hb3⟩
  have HK3 := Lib.hid (four_below hb3 HK2.out)
  have HB3 := Lib.hid (HB2.out.trans (hb3.mono HB2.out.size))
  have CG3 := Lib.hid (CG2.out.below hb3)
  clear hb3 HK2 HB2 CG2 q0 q1 q2 q3
  go_upto_region 3 with fail
  have nH : G < w3.heap.size := CG3.out.lt
  have HK2 := Lib.hid (four_alloc HK3.out (.cells #[.int .i64 (RM.addS a b c d).1, .int .i64 (RM.addS a b c d).2.1] 23))
  have HB2 : Below w.heap.size w (w3.alloc (.cells #[.int .i64 (RM.addS a b c d).1, .int .i64 (RM.addS a b c d).2.1] 23)) := HB3.out.alloc (by omega) _
  have HB2 := Lib.hid HB2
  have CG2 := Lib.hid (CG3.out.alloc (.cells #[.int .i64 (RM.addS a b c d).1, .int .i64 (RM.addS a b c d).2.1] 23))
  have CH2 := Lib.hid (Cel.made w3 23 #[.int .i64 (RM.addS a b c d).1, .int .i64 (RM.addS a b c d).2.1])
  generalize w3.alloc (.cells #[.int .i64 (RM.addS a b c d).1, .int .i64 (RM.addS a b c d).2.1] 23) = w2 at *
  clear HK3 HB3 CG3
  generalize w3.heap.size = H at *
  have z1 : w.heap.size ≠ G := by omega
  have z2 : w.heap.size + 1 ≠ G := by omega
  have z3 : w.heap.size ≠ H := by omega
  have z4 : w.heap.size + 1 ≠ H := by omega
  have z5 : G ≠ H := by omega
  have z6 : w.heap.size ≤ G := by omega
  have z7 : w.heap.size ≤ H := by omega
  obtain ⟨q0, q1, q2, q3⟩ := HK2.out
  have g0 : w2.cell? ⟨G, 0, none⟩ = some (.int .i64 (RM.addS a b c d).1) := CG2.out.cell 0
  have g1 : w2.cell? ⟨G, 1, none⟩ = some (.int .i64 (RM.addS a b c d).2.1) := CG2.out.cell 1
  have g2 : w2.frozen? ⟨G, 0, none⟩ = false := CG2.out.free 0
  have g3 : w2.frozen? ⟨G, 1, none⟩ = false := CG2.out.free 1
  have h0 : w2.cell? ⟨H, 0, none⟩ = some (.int .i64 (RM.addS a b c d).1) := CH2.out.cell 0
  have h1 : w2.cell? ⟨H, 1, none⟩ = some (.int .i64 (RM.addS a b c d).2.1) := CH2.out.cell 1
  have h2 : w2.frozen? ⟨H, 0, none⟩ = false := CH2.out.free 0
  have h3 : w2.frozen? ⟨H, 1, none⟩ = false := CH2.out.free 1
  go_wp2_with fail
  refine (Sub_c a b c d ha hb hc hd _).mono ?_
  rintro e' w3 ⟨rfl, hb3⟩
  have HK3 := Lib.hid (four_below hb3 HK2.out)
  have HB3 := Lib.hid (HB2.out.trans (hb3.mono HB2.out.size))
  have CG3 := Lib.hid (CG2.out.below hb3)
  have CH3 := Lib.hid (CH2.out.below hb3)
  clear hb3 q0 q1 q2 q3 g0 g1 g2 g3 h0 h1 h2 h3 HK2 HB2 CG2 CH2
  obtain ⟨q0, q1, q2, q3⟩ := HK3.out
  have g0 : w3.cell? ⟨G, 0, none⟩ = some (.int .i64 (RM.addS a b c d).1) := CG3.out.cell 0
  have g1 : w3.cell? ⟨G, 1, none⟩ = some (.int .i64 (RM.addS a b c d).2.1) := CG3.out.cell 1
  have g2 : w3.frozen? ⟨G, 0, none⟩ = false := CG3.out.free 0
  have g3 : w3.frozen? ⟨G, 1, none⟩ = false := CG3.out.free 1
  have h0 : w3.cell? ⟨H, 0, none⟩ = some (.int .i64 (RM.addS a b c d).1) := CH3.out.cell 0
  have h1 : w3.cell? ⟨H, 1, none⟩ = some (.int .i64 (RM.addS a b c d).2.1) := CH3.out.cell 1
  have h2 : w3.frozen? ⟨H, 0, none⟩ = false := CH3.out.free 0
  have h3 : w3.frozen? ⟨H, 1, none⟩ = false := CH3.out.free 1
  go_upto_region 6 with fail
  have HK4 := Lib.hid (four_set (four_set HK3.out ⟨G, 0, none⟩ (.int .i64 (RM.subS a b c d).1) z1.symm z2.symm) ⟨G, 1, none⟩ (.int .i64 (RM.subS a b c d).2.1) z1.symm z2.symm)
  have CH4 := Lib.hid ((CH3.out.far (p := ⟨G, 0, none⟩) z5.symm (.int .i64 (RM.subS a b c d).1)).far (p := ⟨G, 1, none⟩) z5.symm (.int .i64 (RM.subS a b c d).2.1))
  have CG4 := Lib.hid (show Cel ((w3.setCell ⟨G, 0, none⟩ (.int .i64 (RM.subS a b c d).1)).setCell ⟨G, 1, none⟩ (.int .i64 (RM.subS a b c d).2.1)) G 23 #[.int .i64 (RM.subS a b c d).1, .int .i64 (RM.subS a b c d).2.1] by have := (CG3.out.store 0 (.int .i64 (RM.subS a b c d).1)).store 1 (.int .i64 (RM.subS a b c d).2.1); simpa using this)
  have HB4 := Lib.hid (show Below w.heap.size w ((w3.setCell ⟨G, 0, none⟩ (.int .i64 (RM.subS a b c d).1)).setCell ⟨G, 1, none⟩ (.int .i64 (RM.subS a b c d).2.1)) from (HB3.out.setCell z6 _).setCell z6 _)
  generalize ((w3.setCell ⟨G, 0, none⟩ (.int .i64 (RM.subS a b c d).1)).setCell ⟨G, 1, none⟩ (.int .i64 (RM.subS a b c d).2.1)) = w4 at *
  clear q0 q1 q2 q3 g0 g1 g2 g3 h0 h1 h2 h3 HK3 HB3 CG3 CH3
  obtain ⟨q0, q1, q2, q3⟩ := HK4.out
  have g0 : w4.cell? ⟨G, 0, none⟩ = some (.int .i64 (RM.subS a b c d).1) := CG4.out.cell 0
  have g1 : w4.cell? ⟨G, 1, none⟩ = some (.int .i64 (RM.subS a b c d).2.1) := CG4.out.cell 1
  have g2 : w4.frozen? ⟨G, 0, none⟩ = false := CG4.out.free 0
  have g3 : w4.frozen? ⟨G, 1, none⟩ = false := CG4.out.free 1
  have h0 : w4.cell? ⟨H, 0, none⟩ = some (.int .i64 (RM.addS a b c d).1) := CH4.out.cell 0
  have h1 : w4.cell? ⟨H, 1, none⟩ = some (.int .i64 (RM.addS a b c d).2.1) := CH4.out.cell 1
  have h2 : w4.frozen? ⟨H, 0, none⟩ = false := CH4.out.free 0
  have h3 : w4.frozen? ⟨H, 1, none⟩ = false := CH4.out.free 1
  go_wp2_with fail
  refine (rsub_c a b c d ha hb hc hd _).mono ?_
  rintro e' w5 ⟨rfl, hb5⟩
  have HK5 := Lib.hid (four_below hb5 HK4.out)
  have HB5 := Lib.hid (HB4.out.trans (hb5.mono HB4.out.size))
  have CG5 := Lib.hid (CG4.out.below hb5)
  have CH5 := Lib.hid (CH4.out.below hb5)
  clear hb5 q0 q1 q2 q3 g0 g1 g2 g3 h0 h1 h2 h3 HK4 HB4 CG4 CH4
  obtain ⟨q0, q1, q2, q3⟩ := HK5.out
  have g0 : w5.cell? ⟨G, 0, none⟩ = some (.int .i64 (RM.subS a b c d).1) := CG5.out.cell 0
  have g1 : w5.cell? ⟨G, 1, none⟩ = some (.int .i64 (RM.subS a b c d).2.1) := CG5.out.cell 1
  have g2 : w5.frozen? ⟨G, 0, none⟩ = false := CG5.out.free 0
  have g3 : w5.frozen? ⟨G, 1, none⟩ = false := CG5.out.free 1
  have h0 : w5.cell? ⟨H, 0, none⟩ = some (.int .i64 (RM.addS a b c d).1) := CH5.out.cell 0
  have h1 : w5.cell? ⟨H, 1, none⟩ = some (.int .i64 (RM.addS a b c d).2.1) := CH5.out.cell 1
  have h2 : w5.frozen? ⟨H, 0, none⟩ = false := CH5.out.free 0
  have h3 : w5.frozen? ⟨H, 1, none⟩ = false := CH5.out.free 1
  go_upto_region 7 with fail
  have HK6 := Lib.hid (four_set (four_set HK5.out ⟨H, 0, none⟩ (.int .i64 (RM.subS a b c d).1) z3.symm z4.symm) ⟨H, 1, none⟩ (.int .i64 (RM.subS a b c d).2.1) z3.symm z4.symm)
  have CG6 := Lib.hid ((CG5.out.far (p := ⟨H, 0, none⟩) z5 (.int .i64 (RM.subS a b c d).1)).far (p := ⟨H, 1, none⟩) z5 (.int .i64 (RM.subS a b c d).2.1))
  have CH6 := Lib.hid (show Cel ((w5.setCell ⟨H, 0, none⟩ (.int .i64 (RM.subS a b c d).1)).setCell ⟨H, 1, none⟩ (.int .i64 (RM.subS a b c d).2.1)) H 23 #[.int .i64 (RM.subS a b c d).1, .int .i64 (RM.subS a b c d).2.1] by have := (CH5.out.store 0 (.int .i64 (RM.subS a b c d).1)).store 1 (.int .i64 (RM.subS a b c d).2.1); simpa using this)
  have HB6 := Lib.hid (show Below w.heap.size w ((w5.setCell ⟨H, 0, none⟩ (.int .i64 (RM.subS a b c d).1)).setCell ⟨H, 1, none⟩ (.int .i64 (RM.subS a b c d).2.1)) from (HB5.out.setCell z7 _).setCell z7 _)
  generalize ((w5.setCell ⟨H, 0, none⟩ (.int .i64 (RM.subS a b c d).1)).setCell ⟨H, 1, none⟩ (.int .i64 (RM.subS a b c d).2.1)) = w6 at *
  clear q0 q1 q2 q3 g0 g1 g2 g3 h0 h1 h2 h3 HK5 HB5 CG5 CH5
  obtain ⟨q0, q1, q2, q3⟩ := HK6.out
  have g0 : w6.cell? ⟨G, 0, none⟩ = some (.int .i64 (RM.subS a b c d).1) := CG6.out.cell 0
  have g1 : w6.cell? ⟨G, 1, none⟩ = some (.int .i64 (RM.subS a b c d).2.1) := CG6.out.cell 1
  have g2 : w6.frozen? ⟨G, 0, none⟩ = false := CG6.out.free 0
  have g3 : w6.frozen? ⟨G, 1, none⟩ = false := CG6.out.free 1
  have h0 : w6.cell? ⟨H, 0, none⟩ = some (.int .i64 (RM.subS a b c d).1) := CH6.out.cell 0
  have h1 : w6.cell? ⟨H, 1, none⟩ = some (.int .i64 (RM.subS a b c d).2.1) := CH6.out.cell 1
  have h2 : w6.frozen? ⟨H, 0, none⟩ = false := CH6.out.free 0
  have h3 : w6.frozen? ⟨H, 1, none⟩ = false := CH6.out.free 1
  go_wp2_with fail
  refine (Mul_c a b c d ha hb hc hd _).mono ?_
  rintro e' w7 ⟨rfl, hb7⟩
  have HK7 := Lib.hid (four_below hb7 HK6.out)
  have HB7 := Lib.hid (HB6.out.trans (hb7.mono HB6.out.size))
  have CG7 := Lib.hid (CG6.out.below hb7)
  have CH7 := Lib.hid (CH6.out.below hb7)
  clear hb7 q0 q1 q2 q3 g0 g1 g2 g3 h0 h1 h2 h3 HK6 HB6 CG6 CH6
  obtain ⟨q0, q1, q2, q3⟩ := HK7.out
  have g0 : w7.cell? ⟨G, 0, none⟩ = some (.int .i64 (RM.subS a b c d).1) := CG7.out.cell 0
  have g1 : w7.cell? ⟨G, 1, none⟩ = some (.int .i64 (RM.subS a b c d).2.1) := CG7.out.cell 1
  have g2 : w7.frozen? ⟨G, 0, none⟩ = false := CG7.out.free 0
  have g3 : w7.frozen? ⟨G, 1, none⟩ = false := CG7.out.free 1
  have h0 : w7.cell? ⟨H, 0, none⟩ = some (.int .i64 (RM.subS a b c d).1) := CH7.out.cell 0
  have h1 : w7.cell? ⟨H, 1, none⟩ = some (.int .i64 (RM.subS a b c d).2.1) := CH7.out.cell 1
  have h2 : w7.frozen? ⟨H, 0, none⟩ = false := CH7.out.free 0
  have h3 : w7.frozen? ⟨H, 1, none⟩ = false := CH7.out.free 1
  go_upto_region 10 with fail
  have HK8 := Lib.hid (four_set (four_set HK7.out ⟨G, 0, none⟩ (.int .i64 (RM.mulS a b c d).1) z1.symm z2.symm) ⟨G, 1, none⟩ (.int .i64 (RM.mulS a b c d).2.1) z1.symm z2.symm)
  have CH8 := Lib.hid ((CH7.out.far (p := ⟨G, 0, none⟩) z5.symm (.int .i64 (RM.mulS a b c d).1)).far (p := ⟨G, 1, none⟩) z5.symm (.int .i64 (RM.mulS a b c d).2.1))
  have CG8 := Lib.hid (show Cel ((w7.setCell ⟨G, 0, none⟩ (.int .i64 (RM.mulS a b c d).1)).setCell ⟨G, 1, none⟩ (.int .i64 (RM.mulS a b c d).2.1)) G 23 #[.int .i64 (RM.mulS a b c d).1, .int .i64 (RM.mulS a b c d).2.1] by have := (CG7.out.store 0 (.int .i64 (RM.mulS a b c d).1)).store 1 (.int .i64 (RM.mulS a b c d).2.1); simpa using this)
  have HB8 := Lib.hid (show Below w.heap.size w ((w7.setCell ⟨G, 0, none⟩ (.int .i64 (RM.mulS a b c d).1)).setCell ⟨G, 1, none⟩ (.int .i64 (RM.mulS a b c d).2.1)) from (HB7.out.setCell z6 _).setCell z6 _)
  generalize ((w7.setCell ⟨G, 0, none⟩ (.int .i64 (RM.mulS a b c d).1)).setCell ⟨G, 1, none⟩ (.int .i64 (RM.mulS a b c d).2.1)) = w8 at *
  clear q0 q1 q2 q3 g0 g1 g2 g3 h0 h1 h2 h3 HK7 HB7 CG7 CH7
  obtain ⟨q0, q1, q2, q3⟩ := HK8.out
  have g0 : w8.cell? ⟨G, 0, none⟩ = some (.int .i64 (RM.mulS a b c d).1) := CG8.out.cell 0
  have g1 : w8.cell? ⟨G, 1, none⟩ = some (.int .i64 (RM.mulS a b c d).2.1) := CG8.out.cell 1
  have g2 : w8.frozen? ⟨G, 0, none⟩ = false := CG8.out.free 0
  have g3 : w8.frozen? ⟨G, 1, none⟩ = false := CG8.out.free 1
  have h0 : w8.cell? ⟨H, 0, none⟩ = some (.int .i64 (RM.subS a b c d).1) := CH8.out.cell 0
  have h1 : w8.cell? ⟨H, 1, none⟩ = some (.int .i64 (RM.subS a b c d).2.1) := CH8.out.cell 1
  have h2 : w8.frozen? ⟨H, 0, none⟩ = false := CH8.out.free 0
  have h3 : w8.frozen? ⟨H, 1, none⟩ = false := CH8.out.free 1
  go_wp2_with fail
  refine (rmul_c a b c d ha hb hc hd _).mono ?_
  rintro e' w9 ⟨rfl, hb9⟩
  have HK9 := Lib.hid (four_below hb9 HK8.out)
  have HB9 := Lib.hid (HB8.out.trans (hb9.mono HB8.out.size))
  have CG9 := Lib.hid (CG8.out.below hb9)
  have CH9 := Lib.hid (CH8.out.below hb9)
  clear hb9 q0 q1 q2 q3 g0 g1 g2 g3 h0 h1 h2 h3 HK8 HB8 CG8 CH8
  obtain ⟨q0, q1, q2, q3⟩ := HK9.out
  have g0 : w9.cell? ⟨G, 0, none⟩ = some (.int .i64 (RM.mulS a b c d).1) := CG9.out.cell 0
  have g1 : w9.cell? ⟨G, 1, none⟩ = some (.int .i64 (RM.mulS a b c d).2.1) := CG9.out.cell 1
  have g2 : w9.frozen? ⟨G, 0, none⟩ = false := CG9.out.free 0
  have g3 : w9.frozen? ⟨G, 1, none⟩ = false := CG9.out.free 1
  have h0 : w9.cell? ⟨H, 0, none⟩ = some (.int .i64 (RM.subS a b c d).1) := CH9.out.cell 0
  have h1 : w9.cell? ⟨H, 1, none⟩ = some (.int .i64 (RM.subS a b c d).2.1) := CH9.out.cell 1
  have h2 : w9.frozen? ⟨H, 0, none⟩ = false := CH9.out.free 0
  have h3 : w9.frozen? ⟨H, 1, none⟩ = false := CH9.out.free 1
  go_upto_region 11 with fail
  have HK10 := Lib.hid (four_set (four_set HK9.out ⟨H, 0, none⟩ (.int .i64 (RM.mulS a b c d).1) z3.symm z4.symm) ⟨H, 1, none⟩ (.int .i64 (RM.mulS a b c d).2.1) z3.symm z4.symm)
  have CG10 := Lib.hid ((CG9.out.far (p := ⟨H, 0, none⟩) z5 (.int .i64 (RM.mulS a b c d).1)).far (p := ⟨H, 1, none⟩) z5 (.int .i64 (RM.mulS a b c d).2.1))
  have CH10 := Lib.hid (show Cel ((w9.setCell ⟨H, 0, none⟩ (.int .i64 (RM.mulS a b c d).1)).setCell ⟨H, 1, none⟩ (.int .i64 (RM.mulS a b c d).2.1)) H 23 #[.int .i64 (RM.mulS a b c d).1, .int .i64 (RM.mulS a b c d).2.1] by have := (CH9.out.store 0 (.int .i64 (RM.mulS a b c d).1)).store 1 (.int .i64 (RM.mulS a b c d).2.1); simpa using this)
  have HB10 := Lib.hid (show Below w.heap.size w ((w9.setCell ⟨H, 0, none⟩ (.int .i64 (RM.mulS a b c d).1)).setCell ⟨H, 1, none⟩ (.int .i64 (RM.mulS a b c d).2.1)) from (HB9.out.setCell z7 _).setCell z7 _)
  generalize ((w9.setCell ⟨H, 0, none⟩ (.int .i64 (RM.mulS a b c d).1)).setCell ⟨H, 1, none⟩ (.int .i64 (RM.mulS a b c d).2.1)) = w10 at *
  clear q0 q1 q2 q3 g0 g1 g2 g3 h0 h1 h2 h3 HK9 HB9 CG9 CH9
  obtain ⟨q0, q1, q2, q3⟩ := HK10.out
  have g0 : w10.cell? ⟨G, 0, none⟩ = some (.int .i64 (RM.mulS a b c d).1) := CG10.out.cell 0
  have g1 : w10.cell? ⟨G, 1, none⟩ = some (.int .i64 (RM.mulS a b c d).2.1) := CG10.out.cell 1
  have g2 : w10.frozen? ⟨G, 0, none⟩ = false := CG10.out.free 0
  have g3 : w10.frozen? ⟨G, 1, none⟩ = false := CG10.out.free 1
  have h0 : w10.cell? ⟨H, 0, none⟩ = some (.int .i64 (RM.mulS a b c d).1) := CH10.out.cell 0
  have h1 : w10.cell? ⟨H, 1, none⟩ = some (.int .i64 (RM.mulS a b c d).2.1) := CH10.out.cell 1
  have h2 : w10.frozen? ⟨H, 0, none⟩ = false := CH10.out.free 0
  have h3 : w10.frozen? ⟨H, 1, none⟩ = false := CH10.out.free 1
  go_wp2_with fail
  refine (Div_c a b c d ha hb hc hd _).mono ?_
  rintro e' w11 ⟨rfl, hb11⟩
  have HK11 := Lib.hid (four_below hb11 HK10.out)
  have HB11 := Lib.hid (HB10.out.trans (hb11.mono HB10.out.size))
  have CG11 := Lib.hid (CG10.out.below hb11)
  have CH11 := Lib.hid (CH10.out.below hb11)
  clear hb11 q0 q1 q2 q3 g0 g1 g2 g3 h0 h1 h2 h3 HK10 HB10 CG10 CH10
  obtain ⟨q0, q1, q2, q3⟩ := HK11.out
  have g0 : w11.cell? ⟨G, 0, none⟩ = some (.int .i64 (RM.mulS a b c d).1) := CG11.out.cell 0
  have g1 : w11.cell? ⟨G, 1, none⟩ = some (.int .i64 (RM.mulS a b c d).2.1) := CG11.out.cell 1
  have g2 : w11.frozen? ⟨G, 0, none⟩ = false := CG11.out.free 0
  have g3 : w11.frozen? ⟨G, 1, none⟩ = false := CG11.out.free 1
  have h0 : w11.cell? ⟨H, 0, none⟩ = some (.int .i64 (RM.mulS a b c d).1) := CH11.out.cell 0
  have h1 : w11.cell? ⟨H, 1, none⟩ = some (.int .i64 (RM.mulS a b c d).2.1) := CH11.out.cell 1
  have h2 : w11.frozen? ⟨H, 0, none⟩ = false := CH11.out.free 0
  have h3 : w11.frozen? ⟨H, 1, none⟩ = false := CH11.out.free 1
  go_upto_region 14 with fail
  have HK12 := Lib.hid (four_set (four_set HK11.out ⟨G, 0, none⟩ (.int .i64 (RM.divS a b c d).1) z1.symm z2.symm) ⟨G, 1, none⟩ (.int .i64 (RM.divS a b c d).2.1) z1.symm z2.symm)
  have CH12 := Lib.hid ((CH11.out.far (p := ⟨G, 0, none⟩) z5.symm (.int .i64 (RM.divS a b c d).1)).far (p := ⟨G, 1, none⟩) z5.symm (.int .i64 (RM.divS a b c d).2.1))
  have CG12 := Lib.hid (show Cel ((w11.setCell ⟨G, 0, none⟩ (.int .i64 (RM.divS a b c d).1)).setCell ⟨G, 1, none⟩ (.int .i64 (RM.divS a b c d).2.1)) G 23 #[.int .i64 (RM.divS a b c d).1, .int .i64 (RM.divS a b c d).2.1] by have := (CG11.out.store 0 (.int .i64 (RM.divS a b c d).1)).store 1 (.int .i64 (RM.divS a b c d).2.1); simpa using this)
  have HB12 := Lib.hid (show Below w.heap.size w ((w11.setCell ⟨G, 0, none⟩ (.int .i64 (RM.divS a b c d).1)).setCell ⟨G, 1, none⟩ (.int .i64 (RM.divS a b c d).2.1)) from (HB11.out.setCell z6 _).setCell z6 _)
  generalize ((w11.setCell ⟨G, 0, none⟩ (.int .i64 (RM.divS a b c d).1)).setCell ⟨G, 1, none⟩ (.int .i64 (RM.divS a b c d).2.1)) = w12 at *
  clear q0 q1 q2 q3 g0 g1 g2 g3 h0 h1 h2 h3 HK11 HB11 CG11 CH11
  obtain ⟨q0, q1, q2, q3⟩ := HK12.out
  have g0 : w12.cell? ⟨G, 0, none⟩ = some (.int .i64 (RM.divS a b c d).1) := CG12.out.cell 0
  have g1 : w12.cell? ⟨G, 1, none⟩ = some (.int .i64 (RM.divS a b c d).2.1) := CG12.out.cell 1
  have g2 : w12.frozen? ⟨G, 0, none⟩ = false := CG12.out.free 0
  have g3 : w12.frozen? ⟨G, 1, none⟩ = false := CG12.out.free 1
  have h0 : w12.cell? ⟨H, 0, none⟩ = some (.int .i64 (RM.mulS a b c d).1) := CH12.out.cell 0
  have h1 : w12.cell? ⟨H, 1, none⟩ = some (.int .i64 (RM.mulS a b c d).2.1) := CH12.out.cell 1
  have h2 : w12.frozen? ⟨H, 0, none⟩ = false := CH12.out.free 0
  have h3 : w12.frozen? ⟨H, 1, none⟩ = false := CH12.out.free 1
  go_wp2_with fail
  refine (rdiv_c a b c d ha hb hc hd _).mono ?_
  rintro e' w13 ⟨rfl, hb13⟩
  have HK13 := Lib.hid (four_below hb13 HK12.out)
  have HB13 := Lib.hid (HB12.out.trans (hb13.mono HB12.out.size))
  have CG13 := Lib.hid (CG12.out.below hb13)
  have CH13 := Lib.hid (CH12.out.below hb13)
  clear hb13 q0 q1 q2 q3 g0 g1 g2 g3 h0 h1 h2 h3 HK12 HB12 CG12 CH12
  obtain ⟨q0, q1, q2, q3⟩ := HK13.out
  have g0 : w13.cell? ⟨G, 0, none⟩ = some (.int .i64 (RM.divS a b c d).1) := CG13.out.cell 0
  have g1 : w13.cell? ⟨G, 1, none⟩ = some (.int .i64 (RM.divS a b c d).2.1) := CG13.out.cell 1
  have g2 : w13.frozen? ⟨G, 0, none⟩ = false := CG13.out.free 0
  have g3 : w13.frozen? ⟨G, 1, none⟩ = false := CG13.out.free 1
  have h0 : w13.cell? ⟨H, 0, none⟩ = some (.int .i64 (RM.mulS a b c d).1) := CH13.out.cell 0
  have h1 : w13.cell? ⟨H, 1, none⟩ = some (.int .i64 (RM.mulS a b c d).2.1) := CH13.out.cell 1
  have h2 : w13.frozen? ⟨H, 0, none⟩ = false := CH13.out.free 0
  have h3 : w13.frozen? ⟨H, 1, none⟩ = false := CH13.out.free 1
  go_upto_region 15 with fail
  have HK14 := Lib.hid (four_set (four_set HK13.out ⟨H, 0, none⟩ (.int .i64 (RM.divS a b c d).1) z3.symm z4.symm) ⟨H, 1, none⟩ (.int .i64 (RM.divS a b c d).2.1) z3.symm z4.symm)
  have CG14 := Lib.hid ((CG13.out.far (p := ⟨H, 0, none⟩) z5 (.int .i64 (RM.divS a b c d).1)).far (p := ⟨H, 1, none⟩) z5 (.int .i64 (RM.divS a b c d).2.1))
  have CH14 := Lib.hid (show Cel ((w13.setCell ⟨H, 0, none⟩ (.int .i64 (RM.divS a b c d).1)).setCell ⟨H, 1, none⟩ (.int .i64 (RM.divS a b c d).2.1)) H 23 #[.int .i64 (RM.divS a b c d).1, .int .i64 (RM.divS a b c d).2.1] by have := (CH13.out.store 0 (.int .i64 (RM.divS a b c d).1)).store 1 (.int .i64 (RM.divS a b c d).2.1); simpa using this)
  have HB14 := Lib.hid (show Below w.heap.size w ((w13.setCell ⟨H, 0, none⟩ (.int .i64 (RM.divS a b c d).1)).setCell ⟨H, 1, none⟩ (.int .i64 (RM.divS a b c d).2.1)) from (HB13.out.setCell z7 _).setCell z7 _)
  generalize ((w13.setCell ⟨H, 0, none⟩ (.int .i64 (RM.divS a b c d).1)).setCell ⟨H, 1, none⟩ (.int .i64 (RM.divS a b c d).2.1)) = w14 at *
  clear q0 q1 q2 q3 g0 g1 g2 g3 h0 h1 h2 h3 HK13 HB13 CG13 CH13
  obtain ⟨q0, q1, q2, q3⟩ := HK14.out
  have g0 : w14.cell? ⟨G, 0, none⟩ = some (.int .i64 (RM.divS a b c d).1) := CG14.out.cell 0
  have g1 : w14.cell? ⟨G, 1, none⟩ = some (.int .i64 (RM.divS a b c d).2.1) := CG14.out.cell 1
  have g2 : w14.frozen? ⟨G, 0, none⟩ = false := CG14.out.free 0
  have g3 : w14.frozen? ⟨G, 1, none⟩ = false := CG14.out.free 1
  have h0 : w14.cell? ⟨H, 0, none⟩ = some (.int .i64 (RM.divS a b c d).1) := CH14.out.cell 0
  have h1 : w14.cell? ⟨H, 1, none⟩ = some (.int .i64 (RM.divS a b c d).2.1) := CH14.out.cell 1
  have h2 : w14.frozen? ⟨H, 0, none⟩ = false := CH14.out.free 0
  have h3 : w14.frozen? ⟨H, 1, none⟩ = false := CH14.out.free 1
  go_wp2_with fail
  have heq := rateq_run
  refine (awake_c _).mono ?_
  rintro e' w15 ⟨rfl, hb15⟩
  have HK15 := Lib.hid (four_below hb15 HK14.out)
  have HB15 := Lib.hid (HB14.out.trans (hb15.mono HB14.out.size))
  have CG15 := Lib.hid (CG14.out.below hb15)
  have CH15 := Lib.hid (CH14.out.below hb15)
  clear hb15 q0 q1 q2 q3 g0 g1 g2 g3 h0 h1 h2 h3 HK14 HB14 CG14 CH14
  obtain ⟨q0, q1, q2, q3⟩ := HK15.out
  have g0 : w15.cell? ⟨G, 0, none⟩ = some (.int .i64 (RM.divS a b c d).1) := CG15.out.cell 0
  have g1 : w15.cell? ⟨G, 1, none⟩ = some (.int .i64 (RM.divS a b c d).2.1) := CG15.out.cell 1
  have g2 : w15.frozen? ⟨G, 0, none⟩ = false := CG15.out.free 0
  have g3 : w15.frozen? ⟨G, 1, none⟩ = false := CG15.out.free 1
  have h0 : w15.cell? ⟨H, 0, none⟩ = some (.int .i64 (RM.divS a b c d).1) := CH15.out.cell 0
  have h1 : w15.cell? ⟨H, 1, none⟩ = some (.int .i64 (RM.divS a b c d).2.1) := CH15.out.cell 1
  have h2 : w15.frozen? ⟨H, 0, none⟩ = false := CH15.out.free 0
  have h3 : w15.frozen? ⟨H, 1, none⟩ = false := CH15.out.free 1
  go_wp2_with fail
  go_ret
  exact ⟨rfl, HB15.out⟩
end Go.Proofs.Ytpoiojacpaglcaa
