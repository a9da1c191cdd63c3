/- The reference's Position as a contract. -/
import Derived.Test.YthcgcmmkajjhhaaDoorRatPP
import Derived.Test.YthcgcmmkajjhhaaDoorRatFM
namespace Go.Proofs.YthcgcmmkajjhhaaDoor
set_option linter.unusedVariables false
set_option linter.unusedSimpArgs false
open Go.RowKit Go.Sort

namespace RM
theorem nearS_no {v : Int} (h : narrowB v = false) : nearS v = (0, 2) := by unfold nearS; rw [if_neg (by simp [h])]
theorem nearS_yes {v : Int} (h : narrowB v = true) : nearS v = (v, 0) := by unfold nearS; rw [if_pos h]
theorem quo_facts (P D : Int) (hP : 0 ≤ P) (hD : 1 ≤ D) : (hi64 P < D → 0 ≤ P / D ∧ P / D ≤ 18446744073709551615 ∧ 0 ≤ P % D ∧ P % D < D) ∧ (D ≤ hi64 P → 18446744073709551616 ≤ P / D) := by
  have m1 := Int.emod_nonneg P (show D ≠ 0 by omega)
  have m2 := Int.emod_lt_of_pos P (show 0 < D by omega)
  have q1 := Int.ediv_nonneg hP (show 0 ≤ D by omega)
  refine ⟨fun hh => ⟨q1, ?_, m1, m2⟩, fun hh => ?_⟩
  · have := Int.ediv_lt_of_lt_mul (a := P) (b := 18446744073709551616) (c := D) (by omega) (by unfold hi64 at hh; omega)
    omega
  · rw [Int.le_ediv_iff_mul_le (by omega)]
    unfold hi64 at hh
    omega
theorem far_no {v : Int} (h : v < -9223372036854775808 ∨ 9223372036854775807 < v) : narrowB v = false := by
  unfold narrowB; simp only [decide_eq_false_iff_not]; omega
/-- the ways of a quotient that is not negative -/
theorem fin_pos (P D : Int) (hP : 0 ≤ P) (hD : 1 ≤ D) :
    (D ≤ hi64 P → nearS (P / D) = (0, 2)) ∧ (hi64 P < D → 0 ≤ P / D ∧ P / D ≤ 18446744073709551615 ∧ 0 ≤ P % D ∧ P % D < D) ∧ (hi64 P < D →
      (9223372036854775808 < P / D → nearS (P / D) = (0, 2)) ∧
      ((signB false (P / D) = false ∧ nearS (P / D) = (0, 2)) ∨ (signB false (P / D) = true ∧ nearS (P / D) = (signZ false (P / D), 0)))) := by
  obtain ⟨h1, h2⟩ := quo_facts P D hP hD
  refine ⟨fun h => nearS_no (far_no (.inr (by have := h2 h; omega))), h1, fun h => ⟨fun h3 => nearS_no (far_no (.inr (by omega))), ?_⟩⟩
  obtain ⟨q1, _⟩ := h1 h
  cases hb : signB false (P / D)
  · refine .inl ⟨rfl, ?_⟩
    have := sign_no _ _ hb
    exact nearS_no (by simpa using this)
  · refine .inr ⟨rfl, ?_⟩
    have hz := sign_ok _ _ hb q1
    simp only [Bool.false_eq_true, if_false] at hz
    rw [nearS_yes hz.2, hz.1]
/-- the ways of a quotient of a negative number -/
theorem fin_neg (P D : Int) (hP : 0 ≤ P) (hD : 1 ≤ D) :
    (D ≤ hi64 P → nearS (-P / D) = (0, 2)) ∧ (hi64 P < D → 0 ≤ P / D ∧ P / D ≤ 18446744073709551615 ∧ 0 ≤ P % D ∧ P % D < D) ∧ (hi64 P < D →
      (9223372036854775808 < P / D → nearS (-P / D) = (0, 2)) ∧
      (0 < P % D → (signB true (P / D + 1) = false ∧ nearS (-P / D) = (0, 2)) ∨ (signB true (P / D + 1) = true ∧ nearS (-P / D) = (signZ true (P / D + 1), 0))) ∧
      (P % D = 0 → (signB true (P / D) = false ∧ nearS (-P / D) = (0, 2)) ∨ (signB true (P / D) = true ∧ nearS (-P / D) = (signZ true (P / D), 0)))) := by
  obtain ⟨h1, h2⟩ := quo_facts P D hP hD
  have nq := neg_div_rest P D hD
  have ne := neg_div_exact P D hD
  have m1 := Int.emod_nonneg P (show D ≠ 0 by omega)
  have far : 9223372036854775808 < P / D → nearS (-P / D) = (0, 2) := fun h3 => by
    refine nearS_no (far_no (.inl ?_))
    by_cases hr : 0 < P % D
    · have := (nq hr).1; omega
    · have := (ne (by omega)).1; omega
  refine ⟨fun h => far (by have := h2 h; omega), h1, fun h => ⟨far, fun hr => ?_, fun hr => ?_⟩⟩
  · obtain ⟨q1, _⟩ := h1 h
    rw [(nq hr).1]
    cases hb : signB true (P / D + 1)
    · refine .inl ⟨rfl, ?_⟩
      have := sign_no _ _ hb
      exact nearS_no (by simpa using this)
    · refine .inr ⟨rfl, ?_⟩
      have hz := sign_ok _ _ hb (by omega)
      simp only [if_true] at hz
      rw [nearS_yes hz.2, hz.1]
  · obtain ⟨q1, _⟩ := h1 h
    rw [(ne hr).1]
    cases hb : signB true (P / D)
    · refine .inl ⟨rfl, ?_⟩
      have := sign_no _ _ hb
      exact nearS_no (by simpa using this)
    · refine .inr ⟨rfl, ?_⟩
      have hz := sign_ok _ _ hb q1
      simp only [if_true] at hz
      rw [nearS_yes hz.2, hz.1]
theorem hi_small (x : Int) (h : 0 ≤ x ∧ x < 340282366920938463463374607431768211456) : 0 ≤ hi64 x ∧ hi64 x ≤ 18446744073709551615 := hi_nn x h
end RM

set_option maxRecDepth 20000 in
set_option maxHeartbeats 4000000 in
theorem rpos_ok (n fn fd tn td : Int) (hn : -9223372036854775808 ≤ n ∧ n ≤ 9223372036854775807) (k1 : RM.scaleB fn fd = true) (k2 : RM.scaleB tn td = true) (w : World) :
    Calls Tryd.prog 9 #[.int .i64 n, .agg #[.int .i64 fn, .int .i64 fd], .agg #[.int .i64 tn, .int .i64 td]] w fun e w' => e = .returned (.tuple #[.int .i64 (RM.posS n fn fd tn td).1, .int .i64 (RM.posS n fn fd tn td).2]) ∧ Below w.heap.size w w' := by
  have hE : RM.posS n fn fd tn td = nearS (RM.posQ n fn fd tn td) := by
    rw [RM.posS, if_pos ⟨k1, k2⟩]; rfl
  obtain ⟨o1, p1, p2, p3, p4⟩ := RM.scale_parts k1
  obtain ⟨o2, r1, r2, r3, r4⟩ := RM.scale_parts k2
  clear o1 o2
  obtain ⟨t1, t2⟩ := RM.mul_31 ⟨r1, r2⟩ ⟨by omega, p4⟩ (a := tn) (b := fd)
  obtain ⟨d1, d2⟩ := RM.mul_31 (a := td) (b := fn) ⟨by omega, r4⟩ ⟨p1, p2⟩
  obtain ⟨z1, z2, z3⟩ := RM.posQ_mag (n := n) (fn := fn) (fd := fd) (tn := tn) (td := td) rfl rfl rfl d1
  have hm : 0 ≤ (n.natAbs : Int) ∧ (n.natAbs : Int) ≤ 9223372036854775808 := by omega
  have wtd : IntKind.u64.wrap td = td := wrap_in (by omega)
  have wfn : IntKind.u64.wrap fn = fn := wrap_in (by omega)
  have wtn : IntKind.u64.wrap tn = tn := wrap_in (by omega)
  have wfd : IntKind.u64.wrap fd = fd := wrap_in (by omega)
  have wd : IntKind.u64.wrap (td * fn) = td * fn := wrap_in (by omega)
  have wt : IntKind.u64.wrap (tn * fd) = tn * fd := wrap_in (by omega)
  have K0 : ((w.alloc (.cells #[.int .i64 fn, .int .i64 fd] 23)).alloc (.cells #[.int .i64 tn, .int .i64 td] 23)).cell? ⟨w.heap.size, 0, none⟩ = some (.int .i64 fn) ∧ ((w.alloc (.cells #[.int .i64 fn, .int .i64 fd] 23)).alloc (.cells #[.int .i64 tn, .int .i64 td] 23)).cell? ⟨w.heap.size, 1, none⟩ = some (.int .i64 fd)
      ∧ ((w.alloc (.cells #[.int .i64 fn, .int .i64 fd] 23)).alloc (.cells #[.int .i64 tn, .int .i64 td] 23)).cell? ⟨w.heap.size + 1, 0, none⟩ = some (.int .i64 tn) ∧ ((w.alloc (.cells #[.int .i64 fn, .int .i64 fd] 23)).alloc (.cells #[.int .i64 tn, .int .i64 td] 23)).cell? ⟨w.heap.size + 1, 1, none⟩ = some (.int .i64 td) := by
    refine ⟨?_, ?_, ?_, ?_⟩ <;> go_simp
  have B0 : Below w.heap.size w ((w.alloc (.cells #[.int .i64 fn, .int .i64 fd] 23)).alloc (.cells #[.int .i64 tn, .int .i64 td] 23)) := ((Below.refl _ _).alloc (Nat.le_refl _) _).alloc (by simp) _
  have HK0 := Lib.hid K0
  have HB0 := Lib.hid B0
  have HE := Lib.hid hE; have Z1 := Lib.hid z1; have Z2 := Lib.hid z2; have Z3 := Lib.hid z3
  clear K0 B0 hE z1 z2 z3
  go_enter Tryd.func9, Tryd.ntmps9
  go_wp2_with fail
  refine (rscale_c fn fd (by omega) (by omega) _).mono ?_
  rintro e w1 ⟨rfl, hb1⟩
  rw [k1]
  have HB1 := Lib.hid (HB0.out.trans (hb1.mono HB0.out.size))
  have HK1 := Lib.hid (four_below hb1 HK0.out)
  clear hb1
  obtain ⟨q0, q1, q2, q3⟩ := HK1.out
  go_wp2_with fail
  refine (rscale_c tn td (by omega) (by omega) _).mono ?_
  rintro e w2 ⟨rfl, hb2⟩
  rw [k2]
  have HB2 := Lib.hid (HB1.out.trans (hb2.mono HB1.out.size))
  have HK2 := Lib.hid (four_below hb2 HK1.out)
  clear hb2 q0 q1 q2 q3 k1 k2
  obtain ⟨q0, q1, q2, q3⟩ := HK2.out
  have r0 := cell_regrown q0
  have r1' := cell_regrown q1
  have r2' := cell_regrown q2
  have r3' := cell_regrown q3
  have gA : ∀ o a u v, growAt Tryd.prog o a u v = growUpon Tryd.prog u v ((execOp a.eval o).run Tryd.prog u) := fun _ _ _ _ => rfl
  have gV : ∀ u v x w', growUpon Tryd.prog u v (.ok (.value x) w') = (w' = u ∧ x = v) := fun _ _ _ _ => rfl
  have gE : ∀ u v g args w', growUpon Tryd.prog u v (.ok (.enter g args) w') = (w' = u ∧ Calls Tryd.prog g args u (fun e w'' => e = .returned v ∧ Below u.heap.size u w'')) := fun _ _ _ _ _ => rfl
  go_upto_region 4 with fail
  generalize td * fn = d at *
  refine wp_region_grow 12 43 #[.int .u64 0, .int .u64 0] (fun v => ∃ x y, v = .agg #[.int .u64 x, .int .u64 y]) (by kernel_rfl) (by kernel_rfl) (by kernel_rfl) alloc_wide (by kernel_rfl) store_wide ?_
  simp only [List.take_succ_cons, List.take_zero]
  (repeat' (refine lexW_step (fun K hK => ?_); simp only [isMade, keptAt]; go_simp; first | (refine hK _ ?_; clear hK K) | (refine ⟨_, fun p => grow_call _ (rmag_b _ (by omega) _) (grow_size _ _), hK _ ?_⟩; clear hK K) | (refine ⟨_, fun p => grow_call _ (times_c _ _ (by omega) (by omega) _) (grow_size _ _), hK _ ?_⟩; clear hK K)))
  refine lexW_nil (Behind2.behind (ms := [(10, 9)]) (ks := [(9, 39)]) (tail := []) (mk := fun β a => (a.put (some 9) (ptr (β 10)))) (by kernel_rfl) (by kernel_rfl) (by kernel_rfl) (fun _ _ => by kernel_rfl) ⟨?_, ?_, ?_⟩)
  · intro pq hpq
    simp only [List.mem_cons, List.not_mem_nil, or_false] at hpq
    rcases hpq with rfl <;> exact ⟨_, _, rfl⟩
  · intro ip hip
    simp only [List.mem_cons, List.not_mem_nil, or_false] at hip
    rcases hip with rfl <;> simp
  intro β w3 hb3 hnn hu
  clear hu
  unfold wpList
  simp only [ptr]
  have hge := (hnn (10, 9) (by simp)).1
  have C3 := Lib.hid (show Cel w3 (β 10) 43 #[.int .u64 (RM.hi64 (n.natAbs * (tn * fd))), .int .u64 (RM.lo64 (n.natAbs * (tn * fd)))] from (hnn (10, 9) (by simp)).2)
  clear hnn
  simp only at hge
  generalize β 10 = G at *
  clear β
  have hsz2 := HB2.out.size
  have hGw : w.heap.size ≤ G := by omega
  have HB3 := Lib.hid (HB2.out.trans (hb3.mono HB2.out.size))
  clear hb3 q0 q1 q2 q3 r0 r1' r2' r3' hge gA gV gE
  have hP0 : 0 ≤ (n.natAbs : Int) * (tn * fd) ∧ (n.natAbs : Int) * (tn * fd) ≤ 42535295865117307932921825928971026432 := by
    refine ⟨Int.mul_nonneg hm.1 (by omega), ?_⟩
    have := Int.mul_le_mul hm.2 t2 (by omega) (by omega)
    omega
  generalize (n.natAbs : Int) * (tn * fd) = P0 at *
  have g1 := RM.hi_small P0 (by omega)
  have g2 := RM.hi_small (P0 + P0) (by omega)
  have x0 : w3.cell? ⟨G, 0, none⟩ = some (.int .u64 (RM.hi64 P0)) := C3.out.cell 0
  have x1 : w3.cell? ⟨G, 1, none⟩ = some (.int .u64 (RM.lo64 P0)) := C3.out.cell 1
  go_wp2_with fail
  refine (rplus_c P0 P0 g1 g1 g2.2 _).mono ?_
  rintro e w4 ⟨rfl, hb4⟩
  have C4 := Lib.hid (C3.out.below hb4)
  have HB4 := Lib.hid (HB3.out.trans (hb4.mono HB3.out.size))
  have y0 : w4.cell? ⟨G, 0, none⟩ = some (.int .u64 (RM.hi64 P0)) := C4.out.cell 0
  have y1 : w4.cell? ⟨G, 1, none⟩ = some (.int .u64 (RM.lo64 P0)) := C4.out.cell 1
  have y2 : w4.frozen? ⟨G, 0, none⟩ = false := C4.out.free 0
  have y3 : w4.frozen? ⟨G, 1, none⟩ = false := C4.out.free 1
  clear x0 x1 hb4
  go_upto_region 6 with fail
  obtain ⟨w5, hw5⟩ : ∃ w5, w5 = (w4.setCell ⟨G, 0, none⟩ (.int .u64 (RM.hi64 (P0 + P0)))).setCell ⟨G, 1, none⟩ (.int .u64 (RM.lo64 (P0 + P0))) := ⟨_, rfl⟩
  rw [← hw5]
  have C5 := Lib.hid (show Cel w5 G 43 #[.int .u64 (RM.hi64 (P0 + P0)), .int .u64 (RM.lo64 (P0 + P0))] by rw [hw5]; simpa using (C4.out.store 0 (.int .u64 (RM.hi64 (P0 + P0)))).store 1 (.int .u64 (RM.lo64 (P0 + P0))))
  have HB5' := Lib.hid (show Below w.heap.size w w5 by rw [hw5]; exact (HB4.out.setCell (by exact hGw) _).setCell (by exact hGw) _)
  clear y0 y1 y2 y3 hw5
  have x0 : w5.cell? ⟨G, 0, none⟩ = some (.int .u64 (RM.hi64 (P0 + P0))) := C5.out.cell 0
  have x1 : w5.cell? ⟨G, 1, none⟩ = some (.int .u64 (RM.lo64 (P0 + P0))) := C5.out.cell 1
  have hd : RM.hi64 d = 0 ∧ RM.lo64 d = d := by unfold RM.hi64 RM.lo64; omega
  have w2d : IntKind.u64.wrap (2 * d) = 2 * d := wrap_in (by omega)
  by_cases hneg : n < 0
  · have hdn : decide (n < 0) = true := by simpa using hneg
    have hl := rless_c d (P0 + P0) (by omega) g2
    rw [hd.1, hd.2] at hl
    have hmn := rminus_c (P0 + P0) d g2 (by omega)
    rw [hd.1, hd.2] at hmn
    by_cases hle : P0 + P0 ≤ d
    · have hlb : RM.lessB d (P0 + P0) = false := by unfold RM.lessB; simp; omega
      rw [hlb] at hl
      have HE0 := Lib.hid (show RM.posS n fn fd tn td = (0, 0) by rw [HE.out, Z1.out hneg hle (by omega)]; decide)
      go_wp2_with fail
      refine (hl _).mono ?_
      rintro e w7 ⟨rfl, hb7⟩
      have HB7 := Lib.hid (HB5'.out.trans (hb7.mono HB5'.out.size))
      clear x0 x1 hb7
      go_wp2
      go_ret2
      exact ⟨by rw [HE0.out]; rfl, HB7.out⟩
    · have hlb : RM.lessB d (P0 + P0) = true := by unfold RM.lessB; simp; omega
      rw [hlb] at hl
      have hmn' := hmn (by omega)
      go_wp2_with fail
      refine (hl _).mono ?_
      rintro e w6 ⟨rfl, hb6⟩
      have C5 := Lib.hid (C5.out.below hb6)
      have HB5' := Lib.hid (HB5'.out.trans (hb6.mono HB5'.out.size))
      have x0 : w6.cell? ⟨G, 0, none⟩ = some (.int .u64 (RM.hi64 (P0 + P0))) := C5.out.cell 0
      have x1 : w6.cell? ⟨G, 1, none⟩ = some (.int .u64 (RM.lo64 (P0 + P0))) := C5.out.cell 1
      clear hb6 hl hlb
      go_wp2_with fail
      refine (hmn' _).mono ?_
      rintro e w7 ⟨rfl, hb7⟩
      have C7 := Lib.hid (C5.out.below hb7)
      have HB7 := Lib.hid (HB5'.out.trans (hb7.mono HB5'.out.size))
      have y0 : w7.cell? ⟨G, 0, none⟩ = some (.int .u64 (RM.hi64 (P0 + P0))) := C7.out.cell 0
      have y1 : w7.cell? ⟨G, 1, none⟩ = some (.int .u64 (RM.lo64 (P0 + P0))) := C7.out.cell 1
      have y2 : w7.frozen? ⟨G, 0, none⟩ = false := C7.out.free 0
      have y3 : w7.frozen? ⟨G, 1, none⟩ = false := C7.out.free 1
      clear x0 x1 hb7
      obtain ⟨P, hPe⟩ : ∃ P, P = P0 + P0 - d := ⟨_, rfl⟩
      rw [← hPe]
      have hP : 0 ≤ RM.hi64 P ∧ RM.hi64 P ≤ 18446744073709551615 := RM.hi_small P (by omega)
      have HF := Lib.hid (RM.fin_neg P (2 * d) (by omega) (by omega))
      have HE := Lib.hid (show RM.posS n fn fd tn td = nearS (-P / (2 * d)) by rw [HE.out, Z2.out (by omega), hPe])
      clear hPe
      go_upto_region 12 with fail
      obtain ⟨w8, hw8⟩ : ∃ w8, w8 = (w7.setCell ⟨G, 0, none⟩ (.int .u64 (RM.hi64 P))).setCell ⟨G, 1, none⟩ (.int .u64 (RM.lo64 P)) := ⟨_, rfl⟩
      rw [← hw8]
      have C8 := Lib.hid (show Cel w8 G 43 #[.int .u64 (RM.hi64 P), .int .u64 (RM.lo64 P)] by rw [hw8]; simpa using (C7.out.store 0 (.int .u64 (RM.hi64 P))).store 1 (.int .u64 (RM.lo64 P)))
      have HB5 := Lib.hid (show Below w.heap.size w w8 by rw [hw8]; exact (HB7.out.setCell (by exact hGw) _).setCell (by exact hGw) _)
      clear y0 y1 y2 y3 hw8
      have x0 : w8.cell? ⟨G, 0, none⟩ = some (.int .u64 (RM.hi64 P)) := C8.out.cell 0
      have x1 : w8.cell? ⟨G, 1, none⟩ = some (.int .u64 (RM.lo64 P)) := C8.out.cell 1
      go_wp2_with fail
      by_cases h1 : 2 * d ≤ RM.hi64 P
      · have HE2 := Lib.hid ((HF.out).1 h1)
        refine (over_big P (2 * d) hP (by omega) h1 _).mono ?_
        rintro e w6 ⟨rfl, hb6⟩
        have HB6 := Lib.hid (HB5.out.trans (hb6.mono HB5.out.size))
        clear hb6 h1
        go_wp2
        go_ret2
        exact ⟨by rw [HE.out, HE2.out]; rfl, HB6.out⟩
      · refine (over_ok P (2 * d) hP (by omega) (by omega) _).mono ?_
        rintro e w6 ⟨rfl, hb6⟩
        have HB6 := Lib.hid (HB5.out.trans (hb6.mono HB5.out.size))
        obtain ⟨u1, u2, u3, u4⟩ := (HF.out).2.1 (by omega)
        have HF2 := Lib.hid ((HF.out).2.2 (by omega))
        clear hb6 h1 HF
        generalize P / (2 * d) = q at *
        generalize P % (2 * d) = r at *
        by_cases h3 : 9223372036854775808 < q
        · have HE2 := Lib.hid (HF2.out.1 h3)
          have hd3 : decide (9223372036854775808 < q) = true := by simpa using h3
          go_wp2
          go_ret2
          exact ⟨by rw [HE.out, HE2.out]; rfl, HB6.out⟩
        · have hd3 : decide (9223372036854775808 < q) = false := by simpa using h3
          by_cases hr : 0 < r
          · have hdr : decide (0 < r) = true := by simpa using hr
            have HF3 := Lib.hid (HF2.out.2.1 hr)
            have h3q : q ≤ 9223372036854775808 := (by omega)
            clear h3 HF2 hr
            go_wp2_with fail
            refine (signed_c true (q + 1) (by omega) _).mono ?_
            rintro e w7 ⟨rfl, rfl⟩
            rcases HF3.out with ⟨g1, g2⟩ | ⟨g1, g2⟩
            · have G2 := Lib.hid g2
              clear g2
              rw [g1]
              go_wp2
              go_ret2
              exact ⟨by rw [HE.out, G2.out]; rfl, HB6.out⟩
            · have G2 := Lib.hid g2
              clear g2
              rw [g1]
              go_wp2
              go_ret2
              exact ⟨by rw [HE.out, G2.out]; rfl, HB6.out⟩
          · have hdr : decide (0 < r) = false := by simpa using hr
            have HF3 := Lib.hid (HF2.out.2.2 (by omega))
            have h3q : q ≤ 9223372036854775808 := (by omega)
            clear h3 HF2 hr
            go_wp2_with fail
            refine (signed_c true q (by omega) _).mono ?_
            rintro e w7 ⟨rfl, rfl⟩
            rcases HF3.out with ⟨g1, g2⟩ | ⟨g1, g2⟩
            · have G2 := Lib.hid g2
              clear g2
              rw [g1]
              go_wp2
              go_ret2
              exact ⟨by rw [HE.out, G2.out]; rfl, HB6.out⟩
            · have G2 := Lib.hid g2
              clear g2
              rw [g1]
              go_wp2
              go_ret2
              exact ⟨by rw [HE.out, G2.out]; rfl, HB6.out⟩
  · have hdn : decide (n < 0) = false := by simpa using hneg
    have g3 := RM.hi_small (P0 + P0 + d) (by omega)
    have hpl := rplus_c (P0 + P0) d g2 (by omega) g3.2
    rw [hd.1, hd.2] at hpl
    go_wp2_with fail
    refine (hpl _).mono ?_
    rintro e w7 ⟨rfl, hb7⟩
    have C7 := Lib.hid (C5.out.below hb7)
    have HB7 := Lib.hid (HB5'.out.trans (hb7.mono HB5'.out.size))
    have y0 : w7.cell? ⟨G, 0, none⟩ = some (.int .u64 (RM.hi64 (P0 + P0))) := C7.out.cell 0
    have y1 : w7.cell? ⟨G, 1, none⟩ = some (.int .u64 (RM.lo64 (P0 + P0))) := C7.out.cell 1
    have y2 : w7.frozen? ⟨G, 0, none⟩ = false := C7.out.free 0
    have y3 : w7.frozen? ⟨G, 1, none⟩ = false := C7.out.free 1
    clear x0 x1 hb7
    obtain ⟨P, hPe⟩ : ∃ P, P = P0 + P0 + d := ⟨_, rfl⟩
    rw [← hPe]
    have hP : 0 ≤ RM.hi64 P ∧ RM.hi64 P ≤ 18446744073709551615 := RM.hi_small P (by omega)
    have HF := Lib.hid (RM.fin_pos P (2 * d) (by omega) (by omega))
    have HE := Lib.hid (show RM.posS n fn fd tn td = nearS (P / (2 * d)) by rw [HE.out, Z3.out (by omega), hPe])
    clear hPe
    go_upto_region 12 with fail
    obtain ⟨w8, hw8⟩ : ∃ w8, w8 = (w7.setCell ⟨G, 0, none⟩ (.int .u64 (RM.hi64 P))).setCell ⟨G, 1, none⟩ (.int .u64 (RM.lo64 P)) := ⟨_, rfl⟩
    rw [← hw8]
    have C8 := Lib.hid (show Cel w8 G 43 #[.int .u64 (RM.hi64 P), .int .u64 (RM.lo64 P)] by rw [hw8]; simpa using (C7.out.store 0 (.int .u64 (RM.hi64 P))).store 1 (.int .u64 (RM.lo64 P)))
    have HB5 := Lib.hid (show Below w.heap.size w w8 by rw [hw8]; exact (HB7.out.setCell (by exact hGw) _).setCell (by exact hGw) _)
    clear y0 y1 y2 y3 hw8
    have x0 : w8.cell? ⟨G, 0, none⟩ = some (.int .u64 (RM.hi64 P)) := C8.out.cell 0
    have x1 : w8.cell? ⟨G, 1, none⟩ = some (.int .u64 (RM.lo64 P)) := C8.out.cell 1
    go_wp2_with fail
    by_cases h1 : 2 * d ≤ RM.hi64 P
    · have HE2 := Lib.hid ((HF.out).1 h1)
      refine (over_big P (2 * d) hP (by omega) h1 _).mono ?_
      rintro e w6 ⟨rfl, hb6⟩
      have HB6 := Lib.hid (HB5.out.trans (hb6.mono HB5.out.size))
      clear hb6 h1
      go_wp2
      go_ret2
      exact ⟨by rw [HE.out, HE2.out]; rfl, HB6.out⟩
    · refine (over_ok P (2 * d) hP (by omega) (by omega) _).mono ?_
      rintro e w6 ⟨rfl, hb6⟩
      have HB6 := Lib.hid (HB5.out.trans (hb6.mono HB5.out.size))
      obtain ⟨u1, u2, u3, u4⟩ := (HF.out).2.1 (by omega)
      have HF2 := Lib.hid ((HF.out).2.2 (by omega))
      clear hb6 h1 HF
      generalize P / (2 * d) = q at *
      generalize P % (2 * d) = r at *
      by_cases h3 : 9223372036854775808 < q
      · have HE2 := Lib.hid (HF2.out.1 h3)
        have hd3 : decide (9223372036854775808 < q) = true := by simpa using h3
        go_wp2
        go_ret2
        exact ⟨by rw [HE.out, HE2.out]; rfl, HB6.out⟩
      · have hd3 : decide (9223372036854775808 < q) = false := by simpa using h3
        have HF3 := Lib.hid (HF2.out.2)
        clear h3 HF2
        go_wp2_with fail
        refine (signed_c false q (by omega) _).mono ?_
        rintro e w7 ⟨rfl, rfl⟩
        rcases HF3.out with ⟨g1, g2⟩ | ⟨g1, g2⟩
        · have G2 := Lib.hid g2
          clear g2
          rw [g1]
          go_wp2
          go_ret2
          exact ⟨by rw [HE.out, G2.out]; rfl, HB6.out⟩
        · have G2 := Lib.hid g2
          clear g2
          rw [g1]
          go_wp2
          go_ret2
          exact ⟨by rw [HE.out, G2.out]; rfl, HB6.out⟩
end Go.Proofs.YthcgcmmkajjhhaaDoor
