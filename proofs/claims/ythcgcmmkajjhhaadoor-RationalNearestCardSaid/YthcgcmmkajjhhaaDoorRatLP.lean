/- The laws RationalPosition and RationalLong as contracts; what the listed variable gives. -/
import Derived.Test.YthcgcmmkajjhhaaDoorRatPQ
import Derived.Test.YthcgcmmkajjhhaaDoorRatAw
namespace Go.Proofs.YthcgcmmkajjhhaaDoor
set_option linter.unusedVariables false
set_option linter.unusedSimpArgs false
open Go.ChangeShapes Go.WideShapes Go.RowKit

theorem us_laid {W : World} {rest : List (String × DataW Unit)} (h : laidMet Tryd.prog (("cutroom/rational.usual", Rows.laid_cutroom_rational_usual) :: rest) W) : Us W := by
  have gU : Tryd.prog.globalNamed "cutroom/rational.usual" = some 0 := by kernel_rfl
  have tU : (Tryd.prog.globals[0]?).map (·.type) = some 74 := by kernel_rfl
  obtain ⟨ps, ⟨g0, t0, cs0, f0, p0, q0, hg0, ht0, hv0, hd0, _⟩, _⟩ := h
  obtain rfl := Option.some.inj (gU.symm.trans hg0)
  obtain rfl := Option.some.inj (tU.symm.trans ht0)
  have hcs := usual_cells hd0
  intro j v hj
  have := World.var?_cell hg0 hv0 j
  rw [this]
  rw [← Array.getElem?_toList, hcs]
  exact hj

section
variable (n fn fd tn td : Int) (hn : -9223372036854775808 ≤ n ∧ n ≤ 9223372036854775807) (hfn : -9223372036854775808 ≤ fn ∧ fn ≤ 9223372036854775807) (hfd : -9223372036854775808 ≤ fd ∧ fd ≤ 9223372036854775807)
    (htn : -9223372036854775808 ≤ tn ∧ tn ≤ 9223372036854775807) (htd : -9223372036854775808 ≤ td ∧ td ≤ 9223372036854775807)
include hn hfn hfd htn htd
set_option maxHeartbeats 1000000 in
theorem rpos_c (w : World) :
    Calls Tryd.prog 9 #[.int .i64 n, .agg #[.int .i64 fn, .int .i64 fd], .agg #[.int .i64 tn, .int .i64 td]] w fun e w' => e = .returned (.tuple #[.int .i64 (RM.posS n fn fd tn td).1, .int .i64 (RM.posS n fn fd tn td).2]) ∧ Below w.heap.size w w' := by
  have K0 : ((w.alloc (.cells #[.int .i64 fn, .int .i64 fd] 23)).alloc (.cells #[.int .i64 tn, .int .i64 td] 23)).cell? ⟨w.heap.size, 0, none⟩ = some (.int .i64 fn) ∧ ((w.alloc (.cells #[.int .i64 fn, .int .i64 fd] 23)).alloc (.cells #[.int .i64 tn, .int .i64 td] 23)).cell? ⟨w.heap.size, 1, none⟩ = some (.int .i64 fd)
      ∧ ((w.alloc (.cells #[.int .i64 fn, .int .i64 fd] 23)).alloc (.cells #[.int .i64 tn, .int .i64 td] 23)).cell? ⟨w.heap.size + 1, 0, none⟩ = some (.int .i64 tn) ∧ ((w.alloc (.cells #[.int .i64 fn, .int .i64 fd] 23)).alloc (.cells #[.int .i64 tn, .int .i64 td] 23)).cell? ⟨w.heap.size + 1, 1, none⟩ = some (.int .i64 td) := by
    refine ⟨?_, ?_, ?_, ?_⟩ <;> go_simp
  have B0 : Below w.heap.size w ((w.alloc (.cells #[.int .i64 fn, .int .i64 fd] 23)).alloc (.cells #[.int .i64 tn, .int .i64 td] 23)) := ((Below.refl _ _).alloc (Nat.le_refl _) _).alloc (by simp) _
  have HK0 := Lib.hid K0
  have HB0 := Lib.hid B0
  clear K0 B0
  cases k1 : RM.scaleB fn fd
  · have HE := Lib.hid (RM.posS_bad (n := n) (fn := fn) (fd := fd) (tn := tn) (td := td) (by simp [k1]))
    go_enter Tryd.func9, Tryd.ntmps9
    go_wp2_with fail
    refine (rscale_c fn fd hfn hfd _).mono ?_
    rintro e w1 ⟨rfl, hb1⟩
    rw [k1]
    have HB1 := Lib.hid (HB0.out.trans (hb1.mono HB0.out.size))
    clear hb1
    go_wp2
    go_ret2
    exact ⟨by rw [HE.out]; rfl, HB1.out⟩
  · cases k2 : RM.scaleB tn td
    · have HE := Lib.hid (RM.posS_bad (n := n) (fn := fn) (fd := fd) (tn := tn) (td := td) (by simp [k2]))
      go_enter Tryd.func9, Tryd.ntmps9
      go_wp2_with fail
      refine (rscale_c fn fd hfn hfd _).mono ?_
      rintro e w1 ⟨rfl, hb1⟩
      rw [k1]
      have HB1 := Lib.hid (HB0.out.trans (hb1.mono HB0.out.size))
      have HK1 := Lib.hid (four_below hb1 HK0.out)
      clear hb1
      obtain ⟨q0, q1, q2, q3⟩ := HK1.out
      go_wp2_with fail
      refine (rscale_c tn td htn htd _).mono ?_
      rintro e w2 ⟨rfl, hb2⟩
      rw [k2]
      have HB2 := Lib.hid (HB1.out.trans (hb2.mono HB1.out.size))
      clear hb2 q0 q1 q2 q3
      go_wp2
      go_ret2
      exact ⟨by rw [HE.out]; rfl, HB2.out⟩
    · exact rpos_ok n fn fd tn td hn k1 k2 w

set_option maxHeartbeats 1000000 in
theorem lawPosition_c (w : World) (hU : Us w) :
    Calls Tryd.prog 3 #[.int .i64 n, .agg #[.int .i64 fn, .int .i64 fd], .agg #[.int .i64 tn, .int .i64 td]] w fun e w' => e = .returned (.bool true) ∧ Below w.heap.size w w' := by
  have K0 : ((w.alloc (.cells #[.int .i64 fn, .int .i64 fd] 23)).alloc (.cells #[.int .i64 tn, .int .i64 td] 23)).cell? ⟨w.heap.size, 0, none⟩ = some (.int .i64 fn) ∧ ((w.alloc (.cells #[.int .i64 fn, .int .i64 fd] 23)).alloc (.cells #[.int .i64 tn, .int .i64 td] 23)).cell? ⟨w.heap.size, 1, none⟩ = some (.int .i64 fd)
      ∧ ((w.alloc (.cells #[.int .i64 fn, .int .i64 fd] 23)).alloc (.cells #[.int .i64 tn, .int .i64 td] 23)).cell? ⟨w.heap.size + 1, 0, none⟩ = some (.int .i64 tn) ∧ ((w.alloc (.cells #[.int .i64 fn, .int .i64 fd] 23)).alloc (.cells #[.int .i64 tn, .int .i64 td] 23)).cell? ⟨w.heap.size + 1, 1, none⟩ = some (.int .i64 td) := by
    refine ⟨?_, ?_, ?_, ?_⟩ <;> go_simp
  have B0 : Below w.heap.size w ((w.alloc (.cells #[.int .i64 fn, .int .i64 fd] 23)).alloc (.cells #[.int .i64 tn, .int .i64 td] 23)) := ((Below.refl _ _).alloc (Nat.le_refl _) _).alloc (by simp) _
  have HK0 := Lib.hid K0
  have HB0 := Lib.hid B0
  have HU0 := Lib.hid (hU.to B0 (Nat.le_refl _))
  have hp := fun w hu => pos_c n fn fd tn td hn hfn hfd htn htd w hu
  have hr := rpos_c n fn fd tn td hn hfn hfd htn htd
  clear K0 B0 hU
  generalize RM.posS n fn fd tn td = q at *
  go_enter Tryd.func3, Tryd.ntmps3
  go_wp2_with fail
  refine (hp _ HU0.out).mono ?_
  rintro e w1 ⟨rfl, hb1⟩
  have HB1 := Lib.hid (HB0.out.trans (hb1.mono HB0.out.size))
  have HK1 := Lib.hid (four_below hb1 HK0.out)
  clear hb1
  obtain ⟨q0, q1, q2, q3⟩ := HK1.out
  go_wp2_with fail
  refine (hr _).mono ?_
  rintro e w2 ⟨rfl, hb2⟩
  have HB2 := Lib.hid (HB1.out.trans (hb2.mono HB1.out.size))
  clear hb2 q0 q1 q2 q3
  go_wp2_with fail
  refine (awake_c _).mono ?_
  rintro e w3 ⟨rfl, hb3⟩
  have HB3 := Lib.hid (HB2.out.trans (hb3.mono HB2.out.size))
  clear hb3
  go_wp2
  go_ret
  exact ⟨rfl, HB3.out⟩
end

set_option maxHeartbeats 1000000 in
theorem lawLong_c (n : Int) (hn : -9223372036854775808 ≤ n ∧ n ≤ 9223372036854775807) (w : World) (hU : Us w) :
    Calls Tryd.prog 7 #[.int .i64 n] w fun e w' => e = .returned (.bool true) ∧ Below w.heap.size w w' := by
  by_cases hs : n < 0 ∨ 1099511627776 < n
  · have go : ∀ b1 b2, decide (n < 0) = b1 → decide (1099511627776 < n) = b2 → (b1 || b2) = true → Calls Tryd.prog 7 #[.int .i64 n] w fun e w' => e = .returned (.bool true) ∧ Below w.heap.size w w' := by
      intro b1 b2 h1 h2 h3
      cases b1 <;> cases b2 <;> first | (simp at h3; done) | skip
      all_goals
        clear hs h3
        go_enter Tryd.func7, Tryd.ntmps7
        go_wp2_with fail
        refine (awake_c _).mono ?_
        rintro e w3 ⟨rfl, hb3⟩
        have HB3 := Lib.hid hb3
        clear hb3
        go_wp2
        go_ret
        exact ⟨rfl, HB3.out⟩
    exact go _ _ rfl rfl (by simpa using hs)
  · have h1 : decide (n < 0) = false := by simp; omega
    have h2 : decide (1099511627776 < n) = false := by simp; omega
    have hp := pos_c n 30000 1001 48000 1 hn (by decide) (by decide) (by decide) (by decide) w hU
    have hq : RM.posQ n 30000 1001 48000 1 = (2 * n * 48048000 + 30000) / 60000 := by unfold RM.posQ; rfl
    have hpos : RM.posS n 30000 1001 48000 1 = ((2 * n * 48048000 + 30000) / 60000, 0) := by
      rw [RM.posS_ok (by decide +kernel) (by decide +kernel) (by rw [hq]; unfold RM.narrowB; simp only [decide_eq_true_eq]; omega), hq]
    rw [hpos] at hp
    have hb : 10 * ((2 * n * 48048000 + 30000) / 60000) - 16016 * n ≤ 5 ∧ -5 < 10 * ((2 * n * 48048000 + 30000) / 60000) - 16016 * n ∧ -9223372036854775808 ≤ 10 * ((2 * n * 48048000 + 30000) / 60000) ∧ 10 * ((2 * n * 48048000 + 30000) / 60000) ≤ 9223372036854775807 := by omega
    have hn40 : 0 ≤ n ∧ n ≤ 1099511627776 := by omega
    have Hp := Lib.hid hp
    clear hq hpos hp hs
    generalize (2 * n * 48048000 + 30000) / 60000 = p at *
    have d1 : decide (10 * p - 16016 * n ≤ 5) = true := by simpa using hb.1
    have d2 : decide (-5 < 10 * p - 16016 * n) = true := by simpa using hb.2.1
    go_enter Tryd.func7, Tryd.ntmps7
    go_wp2_with fail
    refine Hp.out.mono ?_
    rintro e w1 ⟨rfl, hb1⟩
    have HB1 := Lib.hid hb1
    clear hb1
    go_wp2_with fail
    refine (awake_c _).mono ?_
    rintro e w3 ⟨rfl, hb3⟩
    have HB3 := Lib.hid (HB1.out.trans (hb3.mono HB1.out.size))
    clear hb3
    go_wp2
    go_ret
    exact ⟨rfl, HB3.out⟩
end Go.Proofs.YthcgcmmkajjhhaaDoor
