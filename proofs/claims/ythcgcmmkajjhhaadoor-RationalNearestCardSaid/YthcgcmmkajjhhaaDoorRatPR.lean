/- The code's nearest and Position. -/
import Derived.Test.YthcgcmmkajjhhaaDoorRatPN
import Derived.Test.YthcgcmmkajjhhaaDoorRatRMulM
import Derived.Test.YthcgcmmkajjhhaaDoorRatAddM
import Derived.Test.YthcgcmmkajjhhaaDoorRatRMul
namespace Go.Proofs.YthcgcmmkajjhhaaDoor
set_option linter.unusedVariables false
set_option linter.unusedSimpArgs false
open Go.RowKit Go.Sort

theorem alloc_cwide (o : Oper) (a : Act) (w : World) (h : o.op = .alloc 67) : (execOp a.eval o).run Tryd.prog w = .ok (.value (ptr w.heap.size)) (w.alloc (.cells #[.int .i64 0, .int .u64 0] 67)) := by
  obtain ⟨dst, op, ty, pos, after, guard⟩ := o
  simp only at h
  subst h
  go_simp
  rfl
theorem store_cwide (o : Oper) (a : Act) (w : World) (p q : Tmp) (B : Nat) (ho : o.op = .store 67 (.tmp p) (.tmp q)) (hp : a.tmps.getD p undef = ptr B) (hw : w.heap[B]? = some (.cells #[.int .i64 0, .int .u64 0] 67 (0, 0)))
    (hq : ∃ x y, a.tmps.getD q undef = .agg #[.int .i64 x, .int .u64 y]) : ∃ w', (execOp a.eval o).run Tryd.prog w = .ok .skip w' ∧ w.grownBy w' (some B) ∧ w'.heap[B]? = some (.cells (a.tmps.getD q undef).cells 67 (0, 0)) := by
  obtain ⟨x, y, hq⟩ := hq
  exact store_run o a w p q B _ _ ho hp hw hq (by kernel_rfl) rfl (by simp [Value.oneCell'])

/-- what nearest answers -/
def nearS (v : Int) : Int × Int := if RM.narrowB v = true then (v, 0) else (0, 2)

set_option maxHeartbeats 2000000 in
theorem nearest_c (n sn sd : Int) (hn : -9223372036854775808 ≤ n ∧ n ≤ 9223372036854775807) (h1 : 1 ≤ sn ∧ sn ≤ 4611686018427387904) (h2 : 1 ≤ sd ∧ sd ≤ 4611686018427387904) (w : World) :
    Calls Tryd.prog 23 #[.int .i64 n, .agg #[.int .i64 sn, .int .i64 sd]] w fun e w' => e = .returned (.tuple #[.int .i64 (nearS ((n * sn + n * sn + sd) / (2 * sd))).1, .int .i64 (nearS ((n * sn + n * sn + sd) / (2 * sd))).2]) ∧ Below w.heap.size w w' := by
  obtain ⟨b1, b2, b3, b4, b5⟩ := RM.near_bd hn h1 h2
  have hp2 := plus_c (n * sn + n * sn) sd b2 (by omega) b3
  rw [b4, b5] at hp2
  have hp1 := plus_c (n * sn) (n * sn) b1 b1 b2
  have hpr := product_c n sn (by omega) (by omega)
  have hdv := divide_c (n * sn + n * sn + sd) (2 * sd) b3 (by omega)
  have hq := RM.hi_div_a (n * sn + n * sn + sd) (2 * sd) (by omega) b3
  generalize n * sn + n * sn + sd = V at *
  generalize n * sn + n * sn = Y at *
  generalize n * sn = X at *
  have hnw := narrow_c (V / (2 * sd)) hq
  generalize V / (2 * sd) = Q at *
  generalize RM.hi64 Q = hQ at *
  generalize RM.lo64 Q = lQ at *
  generalize RM.hi64 X = hX at *
  generalize RM.lo64 X = lX at *
  generalize RM.hi64 Y = hY at *
  generalize RM.lo64 Y = lY at *
  generalize RM.hi64 V = hV at *
  generalize RM.lo64 V = lV at *
  have K0 : (w.alloc (.cells #[.int .i64 sn, .int .i64 sd] 23)).cell? ⟨w.heap.size, 0, none⟩ = some (.int .i64 sn) ∧ (w.alloc (.cells #[.int .i64 sn, .int .i64 sd] 23)).cell? ⟨w.heap.size, 1, none⟩ = some (.int .i64 sd) := by
    refine ⟨?_, ?_⟩ <;> go_simp
  have B0 : Below w.heap.size w (w.alloc (.cells #[.int .i64 sn, .int .i64 sd] 23)) := (Below.refl _ _).alloc (Nat.le_refl _) _
  have HK0 := Lib.hid K0
  have HB0 := Lib.hid B0
  have Hp1 := Lib.hid hp1; have Hp2 := Lib.hid hp2; have Hdv := Lib.hid hdv; have Hnw := Lib.hid hnw
  clear K0 B0 hp1 hp2 hdv hnw b4 b5
  go_enter Tryd.func23, Tryd.ntmps23
  go_wp2_with fail
  refine (hpr _).mono ?_
  rintro e w1 ⟨rfl, hb1⟩
  have q0 := (old_cell hb1 w.heap.size 0 (by simp)).trans HK0.out.1
  have q1 := (old_cell hb1 w.heap.size 1 (by simp)).trans HK0.out.2
  have hs1 := hb1.size
  simp only [World.size_alloc] at hs1
  have HB1 := Lib.hid (HB0.out.trans (hb1.mono (by simp)))
  clear hb1
  have lw : w.heap.size < w1.heap.size := by omega
  have nw : ¬ w.heap.size = w1.heap.size := by omega
  go_upto_region 2 with fail
  obtain ⟨w2, hw2⟩ : ∃ w2, w2 = w1.alloc (Obj.cells #[Value.int IntKind.i64 (hX), Value.int IntKind.u64 (lX)] 67) := ⟨_, rfl⟩
  rw [← hw2]
  have p0 : w2.cell? ⟨w.heap.size, 0, none⟩ = some (.int .i64 sn) := by rw [hw2]; go_simp
  have p1 : w2.cell? ⟨w.heap.size, 1, none⟩ = some (.int .i64 sd) := by rw [hw2]; go_simp
  have p2 : w2.cell? ⟨w1.heap.size, 0, none⟩ = some (.int .i64 (hX)) := by rw [hw2]; go_simp
  have p3 : w2.cell? ⟨w1.heap.size, 1, none⟩ = some (.int .u64 (lX)) := by rw [hw2]; go_simp
  have HB2 := Lib.hid (show Below w.heap.size w w2 by rw [hw2]; exact HB1.out.alloc (by omega) _)
  have K2 : w2.cell? ⟨w.heap.size, 0, none⟩ = some (.int .i64 sn) ∧ w2.cell? ⟨w.heap.size, 1, none⟩ = some (.int .i64 sd) := ⟨p0, p1⟩
  have HK2 := Lib.hid K2
  have hs2 : w2.heap.size = w1.heap.size + 1 := by rw [hw2]; simp
  clear q0 q1 hw2 K2
  have lw2 : w.heap.size < w2.heap.size := by omega
  generalize w1.heap.size = G at *
  have r0 := cell_regrown p0
  have r1 := cell_regrown p1
  have r2 := cell_regrown p2
  have r3 := cell_regrown p3
  have gA : ∀ o a u v, growAt Tryd.prog o a u v = growUpon Tryd.prog u v ((execOp a.eval o).run Tryd.prog u) := fun _ _ _ _ => rfl
  have gV : ∀ u v x w', growUpon Tryd.prog u v (.ok (.value x) w') = (w' = u ∧ x = v) := fun _ _ _ _ => rfl
  have gE : ∀ u v g args w', growUpon Tryd.prog u v (.ok (.enter g args) w') = (w' = u ∧ Calls Tryd.prog g args u (fun e w'' => e = .returned v ∧ Below u.heap.size u w'')) := fun _ _ _ _ _ => rfl
  have wsd : IntKind.u64.wrap sd = sd := wrap_in (by omega)
  refine wp_region_grow 10 67 #[.int .i64 0, .int .u64 0] (fun v => ∃ x y, v = .agg #[.int .i64 x, .int .u64 y]) (by kernel_rfl) (by kernel_rfl) (by kernel_rfl) alloc_cwide (by kernel_rfl) store_cwide ?_
  simp only [List.take_succ_cons, List.take_zero]
  iterate 2 (refine lexW_step (fun K hK => ?_); simp only [isMade, keptAt]; go_simp; (refine hK _ ?_; clear hK K))
  (refine lexW_step (fun K hK => ?_); simp only [isMade, keptAt]; go_simp; refine ⟨_, fun p => grow_call _ (Hp1.out _) (grow_size _ _), hK _ ?_⟩; clear hK K)
  iterate 4 (refine lexW_step (fun K hK => ?_); simp only [isMade, keptAt]; go_simp; (refine hK _ ?_; clear hK K))
  (refine lexW_step (fun K hK => ?_); simp only [isMade, keptAt]; go_simp; refine ⟨_, fun p => grow_call _ (Hp2.out _) (grow_size _ _), hK _ ?_⟩; clear hK K)
  repeat' (refine lexW_step (fun K hK => ?_); simp only [isMade, keptAt]; go_simp; (refine hK _ ?_; clear hK K))
  refine lexW_nil (Behind2.behind (ms := [(8, 7)]) (ks := [(7, 23)]) (tail := []) (mk := fun β a => (a.put (some 7) (ptr (β 8)))) (by kernel_rfl) (by kernel_rfl) (by kernel_rfl) (fun _ _ => by kernel_rfl) ⟨?_, ?_, ?_⟩)
  · intro pq hpq
    simp only [List.mem_cons, List.not_mem_nil, or_false] at hpq
    rcases hpq with rfl <;> exact ⟨_, _, rfl⟩
  · intro ip hip
    simp only [List.mem_cons, List.not_mem_nil, or_false] at hip
    rcases hip with rfl <;> simp
  intro β w3 hb3 hnn hu
  clear hu
  unfold wpList
  simp only [ptr]
  have C3 := Lib.hid (show Cel w3 (β 8) 67 #[.int .i64 (hV), .int .u64 (lV)] from (hnn (8, 7) (by simp)).2)
  clear hnn
  generalize β 8 = H at *
  clear β
  have q0 := (old_cell hb3 w.heap.size 0 lw2).trans p0
  have q1 := (old_cell hb3 w.heap.size 1 lw2).trans p1
  have x0 : w3.cell? ⟨H, 0, none⟩ = some (.int .i64 (hV)) := C3.out.cell 0
  have x1 : w3.cell? ⟨H, 1, none⟩ = some (.int .u64 (lV)) := C3.out.cell 1
  have HB3 := Lib.hid (HB2.out.trans (hb3.mono HB2.out.size))
  have lw3 : w.heap.size < w3.heap.size := by have := hb3.size; omega
  clear hb3 p0 p1 p2 p3 r0 r1 r2 r3
  have w2d : IntKind.u64.wrap (2 * sd) = 2 * sd := wrap_in (by omega)
  go_wp2_with fail
  refine (Hdv.out _).mono ?_
  rintro e w4 ⟨rfl, hb4⟩
  have HB4 := Lib.hid (HB3.out.trans (hb4.mono HB3.out.size))
  have hs4 := hb4.size
  clear hb4 q0 q1 x0 x1
  go_wp2_with fail
  refine (Hnw.out _).mono ?_
  rintro e w5 ⟨rfl, hb5⟩
  have HB5 := Lib.hid ((HB4.out.alloc (by omega) _).trans (hb5.mono (by simp; omega)))
  clear hb5
  have hN : (RM.narrowB Q = true ∧ RM.narrowV Q = Q ∧ nearS Q = (Q, 0)) ∨ (RM.narrowB Q = false ∧ nearS Q = (0, 2)) := by
    cases hq : RM.narrowB Q
    · exact .inr ⟨rfl, by unfold nearS; rw [if_neg (by simp [hq])]⟩
    · exact .inl ⟨rfl, by unfold RM.narrowV; rw [if_pos hq], by unfold nearS; rw [if_pos hq]⟩
  rcases hN with ⟨h3, h4, h5⟩ | ⟨h3, h5⟩
  · rw [h3, h4]
    have H5 := Lib.hid h5
    clear h5 h3 h4
    go_wp2
    go_ret2
    exact ⟨by rw [H5.out]; rfl, HB5.out⟩
  · rw [h3]
    have H5 := Lib.hid h5
    clear h5 h3
    go_wp2
    go_ret2
    exact ⟨by rw [H5.out]; rfl, HB5.out⟩
end Go.Proofs.YthcgcmmkajjhhaaDoor
