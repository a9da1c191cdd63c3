/- The code's Position as a contract. -/
import Derived.Test.YthcgcmmkajjhhaaDoorRatPR
namespace Go.Proofs.YthcgcmmkajjhhaaDoor
set_option linter.unusedVariables false
set_option linter.unusedSimpArgs false
open Go.RowKit

set_option maxHeartbeats 2000000 in
theorem pos_c (n fn fd tn td : Int) (hn : -9223372036854775808 ≤ n ∧ n ≤ 9223372036854775807) (hfn : -9223372036854775808 ≤ fn ∧ fn ≤ 9223372036854775807) (hfd : -9223372036854775808 ≤ fd ∧ fd ≤ 9223372036854775807)
    (htn : -9223372036854775808 ≤ tn ∧ tn ≤ 9223372036854775807) (htd : -9223372036854775808 ≤ td ∧ td ≤ 9223372036854775807) (w : World) (hU : Us w) :
    Calls Tryd.prog 8 #[.int .i64 n, .agg #[.int .i64 fn, .int .i64 fd], .agg #[.int .i64 tn, .int .i64 td]] w fun e w' => e = .returned (.tuple #[.int .i64 (RM.posS n fn fd tn td).1, .int .i64 (RM.posS n fn fd tn td).2]) ∧ Below w.heap.size w w' := by
  have K0 : ((w.alloc (.cells #[.int .i64 fn, .int .i64 fd] 23)).alloc (.cells #[.int .i64 tn, .int .i64 td] 23)).cell? ⟨w.heap.size, 0, none⟩ = some (.int .i64 fn) ∧ ((w.alloc (.cells #[.int .i64 fn, .int .i64 fd] 23)).alloc (.cells #[.int .i64 tn, .int .i64 td] 23)).cell? ⟨w.heap.size, 1, none⟩ = some (.int .i64 fd)
      ∧ ((w.alloc (.cells #[.int .i64 fn, .int .i64 fd] 23)).alloc (.cells #[.int .i64 tn, .int .i64 td] 23)).cell? ⟨w.heap.size + 1, 0, none⟩ = some (.int .i64 tn) ∧ ((w.alloc (.cells #[.int .i64 fn, .int .i64 fd] 23)).alloc (.cells #[.int .i64 tn, .int .i64 td] 23)).cell? ⟨w.heap.size + 1, 1, none⟩ = some (.int .i64 td) := by
    refine ⟨?_, ?_, ?_, ?_⟩ <;> go_simp
  have B0 : Below w.heap.size w ((w.alloc (.cells #[.int .i64 fn, .int .i64 fd] 23)).alloc (.cells #[.int .i64 tn, .int .i64 td] 23)) := ((Below.refl _ _).alloc (Nat.le_refl _) _).alloc (by simp) _
  have HK0 := Lib.hid K0
  have HB0 := Lib.hid B0
  have HU0 := Lib.hid (hU.to B0 (Nat.le_refl _))
  clear K0 B0 hU
  cases k1 : RM.scaleB fn fd
  · have HE := Lib.hid (RM.posS_bad (n := n) (fn := fn) (fd := fd) (tn := tn) (td := td) (by simp [k1]))
    go_enter Tryd.func8, Tryd.ntmps8
    go_wp2_with fail
    refine (isScale_c fn fd hfn hfd _).mono ?_
    rintro e w1 ⟨rfl, hb1⟩
    rw [k1]
    have HB1 := Lib.hid (HB0.out.trans (hb1.mono HB0.out.size))
    clear hb1
    go_wp2
    go_ret2
    exact ⟨by rw [HE.out]; rfl, HB1.out⟩
  · cases k2 : RM.scaleB tn td
    · have HE := Lib.hid (RM.posS_bad (n := n) (fn := fn) (fd := fd) (tn := tn) (td := td) (by simp [k2]))
      go_enter Tryd.func8, Tryd.ntmps8
      go_wp2_with fail
      refine (isScale_c fn fd hfn hfd _).mono ?_
      rintro e w1 ⟨rfl, hb1⟩
      rw [k1]
      have HB1 := Lib.hid (HB0.out.trans (hb1.mono HB0.out.size))
      have HK1 := Lib.hid (four_below hb1 HK0.out)
      clear hb1
      obtain ⟨q0, q1, q2, q3⟩ := HK1.out
      go_wp2_with fail
      refine (isScale_c tn td htn htd _).mono ?_
      rintro e w2 ⟨rfl, hb2⟩
      rw [k2]
      have HB2 := Lib.hid (HB1.out.trans (hb2.mono HB1.out.size))
      clear hb2 q0 q1 q2 q3
      go_wp2
      go_ret2
      exact ⟨by rw [HE.out]; rfl, HB2.out⟩
    · have hE : RM.posS n fn fd tn td = nearS (RM.posQ n fn fd tn td) := by
        rw [RM.posS, if_pos ⟨k1, k2⟩]; rfl
      have HE := Lib.hid hE
      clear hE
      go_enter Tryd.func8, Tryd.ntmps8
      go_wp2_with fail
      refine (isScale_c fn fd hfn hfd _).mono ?_
      rintro e w1 ⟨rfl, hb1⟩
      rw [k1]
      have HB1 := Lib.hid (HB0.out.trans (hb1.mono HB0.out.size))
      have HK1 := Lib.hid (four_below hb1 HK0.out)
      have HU1 := Lib.hid (HU0.out.to hb1 (Nat.le_refl _))
      clear hb1
      obtain ⟨q0, q1, q2, q3⟩ := HK1.out
      go_wp2_with fail
      refine (isScale_c tn td htn htd _).mono ?_
      rintro e w2 ⟨rfl, hb2⟩
      rw [k2]
      have HB2 := Lib.hid (HB1.out.trans (hb2.mono HB1.out.size))
      have HK2 := Lib.hid (four_below hb2 HK1.out)
      have HU2 := Lib.hid (HU1.out.to hb2 (Nat.le_refl _))
      clear hb2 q0 q1 q2 q3
      obtain ⟨q0, q1, q2, q3⟩ := HK2.out
      go_wp2_with fail
      refine (step_c fn fd tn td _ HU2.out k1 k2).mono ?_
      rintro e w3 ⟨sn, sd, rfl, hst, hb3⟩
      have HB3 := Lib.hid (HB2.out.trans (hb3.mono HB2.out.size))
      have hq := RM.posQ_step n hst
      obtain ⟨s1, s2, s3, s4, _⟩ := hst
      have Hq := Lib.hid hq
      clear hb3 q0 q1 q2 q3 hq
      go_wp2_with fail
      refine (nearest_c n sn sd hn ⟨s1, s2⟩ ⟨s3, s4⟩ _).mono ?_
      rintro e w4 ⟨rfl, hb4⟩
      have HB4 := Lib.hid (HB3.out.trans (hb4.mono HB3.out.size))
      rw [Hq.out]
      clear hb4
      go_wp2
      go_ret2
      exact ⟨by rw [HE.out]; rfl, HB4.out⟩

set_option maxHeartbeats 1000000 in
theorem rscale_c (n d : Int) (hn : -9223372036854775808 ≤ n ∧ n ≤ 9223372036854775807) (hd : -9223372036854775808 ≤ d ∧ d ≤ 9223372036854775807) (w : World) :
    Calls Tryd.prog 25 #[.agg #[.int .i64 n, .int .i64 d]] w fun e w' => e = .returned (.bool (RM.scaleB n d)) ∧ Below w.heap.size w w' := by
  have hE : RM.scaleB n d = (RM.ok n d && (decide (0 < n) && (decide (n ≤ 2147483648) && decide (d ≤ 2147483648)))) := by
    unfold RM.scaleB
    by_cases h1 : 0 < n <;> by_cases h2 : n ≤ 2147483648 <;> by_cases h3 : d ≤ 2147483648 <;> simp [h1, h2, h3]
  have HE := Lib.hid hE
  clear hE
  have main : ∀ (o b1 b2 b3 : Bool), RM.ok n d = o → decide (0 < n) = b1 → decide (n ≤ 2147483648) = b2 → decide (d ≤ 2147483648) = b3 →
      Calls Tryd.prog 25 #[.agg #[.int .i64 n, .int .i64 d]] w fun e w' => e = .returned (.bool (RM.scaleB n d)) ∧ Below w.heap.size w w' := by
    intro o b1 b2 b3 h0 h1 h2 h3
    have hE := HE.out
    rw [h0, h1, h2, h3] at hE
    have HE2 := Lib.hid hE
    clear hE
    cases o <;> cases b1 <;> cases b2 <;> cases b3
    all_goals
      go_enter Tryd.func25, Tryd.ntmps25
      go_wp2_with fail
      refine (rvalid_c n d hn hd _).mono ?_
      rintro e w1 ⟨rfl, hb1⟩
      rw [h0]
      have k0 := (old_cell hb1 w.heap.size 0 (by simp)).trans (by go_simp : _ = some (.int .i64 n))
      have k1 := (old_cell hb1 w.heap.size 1 (by simp)).trans (by go_simp : _ = some (.int .i64 d))
      have HW1 := Lib.hid (show Below w.heap.size w w1 from ((Below.refl _ _).alloc (Nat.le_refl _) _).trans (hb1.mono (by simp)))
      clear hb1
      go_wp2
      go_ret
      exact ⟨ret_bool HE2.out.symm, HW1.out⟩
  exact main _ _ _ _ rfl rfl rfl rfl
end Go.Proofs.YthcgcmmkajjhhaaDoor
