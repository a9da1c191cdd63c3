/- The code's Position, whole. -/
import Derived.Test.YthcgcmmkajjhhaaDoorRatPS
namespace Go.Proofs.YthcgcmmkajjhhaaDoor
open Go.RowKit

set_option maxHeartbeats 1000000 in
theorem step_other (fn fd tn td : Int) (w : World) (h1 : RM.scaleB fn fd = true) (h2 : RM.scaleB tn td = true) (hne : ¬ (tn = 48000 ∧ td = 1)) :
    Calls Tryd.prog 24 #[.agg #[.int .i64 fn, .int .i64 fd], .agg #[.int .i64 tn, .int .i64 td]] w fun e w' => ∃ sn sd, e = .returned (.agg #[.int .i64 sn, .int .i64 sd]) ∧ RM.Step fn fd tn td sn sd ∧ Below w.heap.size w w' := by
  obtain ⟨sn, sd, hdv, hst⟩ := RM.step_enc h1 h2
  obtain ⟨o1, p1, p2, p3, p4⟩ := RM.scale_parts h1
  obtain ⟨o2, r1, r2, r3, r4⟩ := RM.scale_parts h2
  have hrun := ratneq_run tn td 48000 1 hne
  have Hst := Lib.hid hst; have Hdv := Lib.hid hdv
  clear hst hdv h1 h2 hne o1 o2
  go_enter Tryd.func24, Tryd.ntmps24
  go_wp2_with fail
  refine (Div_c tn td fn fd (by omega) (by omega) (by omega) (by omega) _).mono ?_
  rintro e w5 ⟨rfl, hb5⟩
  rw [Hdv.out]
  have hs5 := hb5.size
  simp only [World.size_alloc] at hs5
  have k4 := (old_cell hb5 (w.heap.size + 1 + 1) 0 (by simp)).trans (by go_simp : _ = some (.int .i64 0))
  have k5 := (old_cell hb5 (w.heap.size + 1 + 1) 1 (by simp)).trans (by go_simp : _ = some (.int .i64 0))
  have l4 := (old_frozen hb5 (w.heap.size + 1 + 1) 0 (by simp)).trans (by go_simp : _ = false)
  have l5 := (old_frozen hb5 (w.heap.size + 1 + 1) 1 (by simp)).trans (by go_simp : _ = false)
  have lr5 : w.heap.size + 1 + 1 < w5.heap.size := by omega
  have nr5 : ¬ w.heap.size + 1 + 1 = w5.heap.size := by omega
  have HW5 := Lib.hid (show Below w.heap.size w w5 from ((((Below.refl _ _).alloc (Nat.le_refl _) _).alloc (by simp) _).alloc (by simp; omega) _).trans (hb5.mono (by simp; omega)))
  clear hb5
  go_wp2_with fail
  refine bodyPost_ret (v := .agg #[.int .i64 sn, .int .i64 sd]) (by simp [results, Tryd.results24, go_sem, *]) rfl ⟨sn, sd, rfl, Hst.out, ?_⟩
  (repeat' (first | (with_reducible exact HW5.out) | (with_reducible refine Below.alloc ?_ ?_ _) | (with_reducible refine below_drewN' ?_ _) | (with_reducible refine Below.drew ?_) | (with_reducible refine Below.setCell ?_ ?_ _) | go_size))

theorem step_c (fn fd tn td : Int) (w : World) (hU : Us w) (h1 : RM.scaleB fn fd = true) (h2 : RM.scaleB tn td = true) :
    Calls Tryd.prog 24 #[.agg #[.int .i64 fn, .int .i64 fd], .agg #[.int .i64 tn, .int .i64 td]] w fun e w' => ∃ sn sd, e = .returned (.agg #[.int .i64 sn, .int .i64 sd]) ∧ RM.Step fn fd tn td sn sd ∧ Below w.heap.size w w' := by
  by_cases h : tn = 48000 ∧ td = 1
  · obtain ⟨rfl, rfl⟩ := h
    exact step_table fn fd w hU h1
  · exact step_other fn fd tn td w h1 h2 h

set_option maxHeartbeats 1000000 in
theorem isScale_c (n d : Int) (hn : -9223372036854775808 ≤ n ∧ n ≤ 9223372036854775807) (hd : -9223372036854775808 ≤ d ∧ d ≤ 9223372036854775807) (w : World) :
    Calls Tryd.prog 22 #[.agg #[.int .i64 n, .int .i64 d]] w fun e w' => e = .returned (.bool (RM.scaleB n d)) ∧ Below w.heap.size w w' := by
  have hE : RM.scaleB n d = (RM.ok n d && (decide (0 < n) && (decide (n ≤ 2147483648) && decide (d ≤ 2147483648)))) := by
    unfold RM.scaleB
    by_cases h1 : 0 < n <;> by_cases h2 : n ≤ 2147483648 <;> by_cases h3 : d ≤ 2147483648 <;> simp [h1, h2, h3]
  have HE := Lib.hid hE
  clear hE
  have main : ∀ (o b1 b2 b3 : Bool), RM.ok n d = o → decide (0 < n) = b1 → decide (n ≤ 2147483648) = b2 → decide (d ≤ 2147483648) = b3 →
      Calls Tryd.prog 22 #[.agg #[.int .i64 n, .int .i64 d]] w fun e w' => e = .returned (.bool (RM.scaleB n d)) ∧ Below w.heap.size w w' := by
    intro o b1 b2 b3 h0 h1 h2 h3
    have hE := HE.out
    rw [h0, h1, h2, h3] at hE
    have HE2 := Lib.hid hE
    clear hE
    cases o <;> cases b1 <;> cases b2 <;> cases b3
    all_goals
      go_enter Tryd.func22, Tryd.ntmps22
      go_wp2_with fail
      refine (valid_c n d hn hd _).mono ?_
      rintro e w1 ⟨rfl, hb1⟩
      rw [h0]
      have k0 := (old_cell hb1 w.heap.size 0 (by simp)).trans (by go_simp : _ = some (.int .i64 n))
      have k1 := (old_cell hb1 w.heap.size 1 (by simp)).trans (by go_simp : _ = some (.int .i64 d))
      have HW1 := Lib.hid (show Below w.heap.size w w1 from ((Below.refl _ _).alloc (Nat.le_refl _) _).trans (hb1.mono (by simp)))
      clear hb1
      go_wp2
      go_ret
      exact ⟨ret_bool HE2.out.symm, HW1.out⟩
  exact main _ _ _ _ rfl rfl rfl rfl
end Go.Proofs.YthcgcmmkajjhhaaDoor
