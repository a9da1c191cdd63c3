/- The law RationalNearest as a contract. -/
import Derived.Test.YthcgcmmkajjhhaaDoorRatLP
import Derived.Test.YthcgcmmkajjhhaaDoorRatNM
import Derived.Test.YthcgcmmkajjhhaaDoorRatRAdd
import Derived.Test.YthcgcmmkajjhhaaDoorRatRDiv
import Derived.Test.YthcgcmmkajjhhaaDoorRatRCmp2
import Derived.Lib.QuietBelow
namespace Go.Proofs.YthcgcmmkajjhhaaDoor
set_option linter.unusedVariables false
set_option linter.unusedSimpArgs false
set_option linter.unusedSectionVars false
open Go.ChangeShapes Go.WideShapes Go.RowKit

set_option maxHeartbeats 1000000 in
theorem small_c (n d : Int) (hn : -9223372036854775808 ≤ n ∧ n ≤ 9223372036854775807) (hd : -9223372036854775808 ≤ d ∧ d ≤ 9223372036854775807) (w : World) :
    Calls Tryd.prog 16 #[.agg #[.int .i64 n, .int .i64 d]] w fun e w' => e = .returned (.bool (RM.smallB n d)) ∧ Below w.heap.size w w' := by
  have hE : RM.smallB n d = (RM.ok n d && (decide (0 < n) && (decide (n ≤ 1048576) && decide (d ≤ 1048576)))) := by
    unfold RM.smallB
    by_cases h1 : 0 < n <;> by_cases h2 : n ≤ 1048576 <;> by_cases h3 : d ≤ 1048576 <;> simp [h1, h2, h3]
  have HE := Lib.hid hE
  clear hE
  have main : ∀ (o b1 b2 b3 : Bool), RM.ok n d = o → decide (0 < n) = b1 → decide (n ≤ 1048576) = b2 → decide (d ≤ 1048576) = b3 →
      Calls Tryd.prog 16 #[.agg #[.int .i64 n, .int .i64 d]] w fun e w' => e = .returned (.bool (RM.smallB n d)) ∧ Below w.heap.size w w' := by
    intro o b1 b2 b3 h0 h1 h2 h3
    have hE := HE.out
    rw [h0, h1, h2, h3] at hE
    have HE2 := Lib.hid hE
    clear hE
    cases o <;> cases b1 <;> cases b2 <;> cases b3
    all_goals
      go_enter Tryd.func16, Tryd.ntmps16
      go_wp2_with fail
      refine (rvalid_c n d hn hd _).mono ?_
      rintro e w1 ⟨rfl, hb1⟩
      rw [h0]
      have k0 := (old_cell hb1 w.heap.size 0 (by simp)).trans (by go_simp : _ = some (.int .i64 n))
      have k1 := (old_cell hb1 w.heap.size 1 (by simp)).trans (by go_simp : _ = some (.int .i64 d))
      have HW1 := Lib.hid (show Below w.heap.size w w1 from ((Below.refl _ _).alloc (Nat.le_refl _) _).trans (hb1.mono (by simp)))
      clear hb1
      go_wp2
      go_ret
      exact ⟨ret_bool HE2.out.symm, HW1.out⟩
  exact main _ _ _ _ rfl rfl rfl rfl

section
variable (n m fn fd tn td : Int) (hn : -9223372036854775808 ≤ n ∧ n ≤ 9223372036854775807) (hm : -9223372036854775808 ≤ m ∧ m ≤ 9223372036854775807) (hfn : -9223372036854775808 ≤ fn ∧ fn ≤ 9223372036854775807) (hfd : -9223372036854775808 ≤ fd ∧ fd ≤ 9223372036854775807)
    (htn : -9223372036854775808 ≤ tn ∧ tn ≤ 9223372036854775807) (htd : -9223372036854775808 ≤ td ∧ td ≤ 9223372036854775807)
include hn hm hfn hfd htn htd
def NearCall (n m fn fd tn td : Int) (w : World) : Prop := Calls Tryd.prog 6 #[.int .i64 n, .int .i64 m, .agg #[.int .i64 fn, .int .i64 fd], .agg #[.int .i64 tn, .int .i64 td]] w fun e w' => e = .returned (.bool true) ∧ Below w.heap.size w w'

set_option maxHeartbeats 4000000 in
theorem near_out (w : World) (hs : ¬ ((0 ≤ n ∧ n ≤ 1048576) ∧ (0 ≤ m ∧ m ≤ 1048576))) : NearCall n m fn fd tn td w := by
  unfold NearCall
  have B0 : Below w.heap.size w ((w.alloc (.cells #[.int .i64 fn, .int .i64 fd] 23)).alloc (.cells #[.int .i64 tn, .int .i64 td] 23)) := ((Below.refl _ _).alloc (Nat.le_refl _) _).alloc (by simp) _
  have HB0 := Lib.hid B0
  clear B0
  by_cases c1 : n < 0
  · have d1 : decide (n < 0) = true := by simpa using c1
    clear c1 hs
    go_enter Tryd.func6, Tryd.ntmps6
    go_wp2_with fail
    refine (awake_c _).mono ?_
    rintro e w3 ⟨rfl, hb3⟩
    have HB3 := Lib.hid (HB0.out.trans (hb3.mono HB0.out.size))
    clear hb3
    go_wp2
    go_ret
    exact ⟨rfl, HB3.out⟩
  have d1 : decide (n < 0) = false := by simpa using c1
  by_cases c2 : 1048576 < n
  · have d2 : decide (1048576 < n) = true := by simpa using c2
    clear c1 c2 hs
    go_enter Tryd.func6, Tryd.ntmps6
    go_wp2_with fail
    refine (awake_c _).mono ?_
    rintro e w3 ⟨rfl, hb3⟩
    have HB3 := Lib.hid (HB0.out.trans (hb3.mono HB0.out.size))
    clear hb3
    go_wp2
    go_ret
    exact ⟨rfl, HB3.out⟩
  have d2 : decide (1048576 < n) = false := by simpa using c2
  by_cases c3 : m < 0
  · have d3 : decide (m < 0) = true := by simpa using c3
    clear c1 c2 c3 hs
    go_enter Tryd.func6, Tryd.ntmps6
    go_wp2_with fail
    refine (awake_c _).mono ?_
    rintro e w3 ⟨rfl, hb3⟩
    have HB3 := Lib.hid (HB0.out.trans (hb3.mono HB0.out.size))
    clear hb3
    go_wp2
    go_ret
    exact ⟨rfl, HB3.out⟩
  have d3 : decide (m < 0) = false := by simpa using c3
  have d4 : decide (1048576 < m) = true := by simp; omega
  clear c1 c2 c3 hs
  go_enter Tryd.func6, Tryd.ntmps6
  go_wp2_with fail
  refine (awake_c _).mono ?_
  rintro e w3 ⟨rfl, hb3⟩
  have HB3 := Lib.hid (HB0.out.trans (hb3.mono HB0.out.size))
  clear hb3
  go_wp2
  go_ret
  exact ⟨rfl, HB3.out⟩

set_option maxRecDepth 20000 in
set_option maxHeartbeats 8000000 in
theorem near_in (w : World) (hU : Us w) (hs : (0 ≤ n ∧ n ≤ 1048576) ∧ (0 ≤ m ∧ m ≤ 1048576)) : NearCall n m fn fd tn td w := by
  unfold NearCall
  have K0 : ((w.alloc (.cells #[.int .i64 fn, .int .i64 fd] 23)).alloc (.cells #[.int .i64 tn, .int .i64 td] 23)).cell? ⟨w.heap.size, 0, none⟩ = some (.int .i64 fn) ∧ ((w.alloc (.cells #[.int .i64 fn, .int .i64 fd] 23)).alloc (.cells #[.int .i64 tn, .int .i64 td] 23)).cell? ⟨w.heap.size, 1, none⟩ = some (.int .i64 fd)
      ∧ ((w.alloc (.cells #[.int .i64 fn, .int .i64 fd] 23)).alloc (.cells #[.int .i64 tn, .int .i64 td] 23)).cell? ⟨w.heap.size + 1, 0, none⟩ = some (.int .i64 tn) ∧ ((w.alloc (.cells #[.int .i64 fn, .int .i64 fd] 23)).alloc (.cells #[.int .i64 tn, .int .i64 td] 23)).cell? ⟨w.heap.size + 1, 1, none⟩ = some (.int .i64 td) := by
    refine ⟨?_, ?_, ?_, ?_⟩ <;> go_simp
  have B0 : Below w.heap.size w ((w.alloc (.cells #[.int .i64 fn, .int .i64 fd] 23)).alloc (.cells #[.int .i64 tn, .int .i64 td] 23)) := ((Below.refl _ _).alloc (Nat.le_refl _) _).alloc (by simp) _
  have HK0 := Lib.hid K0
  have HB0 := Lib.hid B0
  have HU0 := Lib.hid (hU.to B0 (Nat.le_refl _))
  clear K0 B0 hU
  have d1 : decide (n < 0) = false := by simp; omega
  have d2 : decide (1048576 < n) = false := by simp; omega
  have d3 : decide (m < 0) = false := by simp; omega
  have d4 : decide (1048576 < m) = false := by simp; omega
  cases k1 : RM.smallB fn fd
  · go_enter Tryd.func6, Tryd.ntmps6
    go_wp2_with fail
    refine (small_c fn fd hfn hfd _).mono ?_
    rintro e w1 ⟨rfl, hb1⟩
    rw [k1]
    have HB1 := Lib.hid (HB0.out.trans (hb1.mono HB0.out.size))
    clear hb1
    go_wp2_with fail
    refine (awake_c _).mono ?_
    rintro e w3 ⟨rfl, hb3⟩
    have HB3 := Lib.hid (HB1.out.trans (hb3.mono HB1.out.size))
    clear hb3
    go_wp2
    go_ret
    exact ⟨rfl, HB3.out⟩
  · cases k2 : RM.smallB tn td
    · go_enter Tryd.func6, Tryd.ntmps6
      go_wp2_with fail
      refine (small_c fn fd hfn hfd _).mono ?_
      rintro e w1 ⟨rfl, hb1⟩
      rw [k1]
      have HB1 := Lib.hid (HB0.out.trans (hb1.mono HB0.out.size))
      have HK1 := Lib.hid (four_below hb1 HK0.out)
      clear hb1
      obtain ⟨q0, q1, q2, q3⟩ := HK1.out
      go_wp2_with fail
      refine (small_c tn td htn htd _).mono ?_
      rintro e w2 ⟨rfl, hb2⟩
      rw [k2]
      have HB2 := Lib.hid (HB1.out.trans (hb2.mono HB1.out.size))
      clear hb2 q0 q1 q2 q3
      go_wp2_with fail
      refine (awake_c _).mono ?_
      rintro e w3 ⟨rfl, hb3⟩
      have HB3 := Lib.hid (HB2.out.trans (hb3.mono HB2.out.size))
      clear hb3
      go_wp2
      go_ret
      exact ⟨rfl, HB3.out⟩
    · have s1 := RM.small_scale k1
      have s2 := RM.small_scale k2
      obtain ⟨f1, f2, f3⟩ := RM.near_fit (n := n) k1 k2 (by omega)
      obtain ⟨g1, g2, g3⟩ := RM.near_fit (n := n + m) k1 k2 (by omega)
      have hmono := RM.posQ_mono (n := n) (m := n + m) k1 k2 (by omega)
      have hp1 := fun w hu => pos_c n fn fd tn td hn hfn hfd htn htd w hu
      have hp2 := fun w hu => pos_c (n + m) fn fd tn td (by omega) hfn hfd htn htd w hu
      rw [RM.posS_ok s1 s2 f1] at hp1
      rw [RM.posS_ok s1 s2 g1] at hp2
      have hfin := fun m1 m2 d1 d2 o1 o2 hd hM hD hO => RM.near_cmp (n := n) (p := RM.posQ n fn fd tn td) (fn := fn) (fd := fd) (tn := tn) (td := td) (m1 := m1) (m2 := m2) (d1 := d1) (d2 := d2) (o1 := o1) (o2 := o2) s1 s2 hs.1.1 rfl hd hM hD hO
      have Hfin := Lib.hid hfin
      clear hfin s1 s2 f1 g1
      generalize RM.posQ n fn fd tn td = P at *
      generalize RM.posQ (n + m) fn fd tn td = Q at *
      have dlt : decide (Q < P) = false := by simp; omega
      have hmul := rmul_c tn td n 1 htn htd hn (by decide)
      have iM := RM.mulS_in tn td n 1
      generalize hMe : RM.mulS tn td n 1 = M at *
      obtain ⟨m1, m2, m3⟩ := M
      simp only [RM.In] at iM
      have hdiv := rdiv_c m1 m2 fn fd (by omega) (by omega) hfn hfd
      have iD := RM.divS_in m1 m2 fn fd
      generalize hDe : RM.divS m1 m2 fn fd = D at *
      obtain ⟨e1, e2, e3⟩ := D
      simp only [RM.In] at iD
      have hneg := rneg_c e1 e2 (by omega)
      have hadd := radd_c P 1 (-e1) e2 ⟨f2, f3⟩ (by decide) (by omega) (by omega)
      have iO := RM.addS_in P 1 (-e1) e2
      generalize hOe : RM.addS P 1 (-e1) e2 = O at *
      obtain ⟨o1, o2, o3⟩ := O
      simp only [RM.In] at iO
      have hcm1 := rcmp_c o1 o2 1 2 (by omega) (by omega) (by decide) (by decide)
      have hcm2 := rcmp_c o1 o2 (-1) 2 (by omega) (by omega) (by decide) (by decide)
      have hneg1 := rneg_c 1 2 (by decide)
      have hcond : m3 = 0 → e3 = 0 → o3 = 0 → RM.cmpS o1 o2 1 2 ≤ 0 ∧ 0 < RM.cmpS o1 o2 (-1) 2 := by
        rintro rfl rfl rfl
        exact Hfin.out m1 m2 e1 e2 o1 o2 (by omega) rfl hDe hOe
      simp only at hmul hdiv hadd
      have Hcond := Lib.hid hcond; have Hp1 := Lib.hid hp1; have Hp2 := Lib.hid hp2; have Hmul := Lib.hid hmul; have Hdiv := Lib.hid hdiv; have Hneg := Lib.hid hneg; have Hadd := Lib.hid hadd; have Hc1 := Lib.hid hcm1; have Hc2 := Lib.hid hcm2; have Hn1 := Lib.hid hneg1
      clear hcond hp1 hp2 hmul hdiv hneg hadd hcm1 hcm2 hneg1 hMe hDe hOe Hfin iM iD iO
      go_enter Tryd.func6, Tryd.ntmps6
      go_wp2_with fail
      refine (small_c fn fd hfn hfd _).mono ?_
      rintro e w1 ⟨rfl, hb1⟩
      rw [k1]
      have HB1 := Lib.hid (HB0.out.trans (hb1.mono HB0.out.size))
      have HK1 := Lib.hid (four_below hb1 HK0.out)
      have HU1 := Lib.hid (HU0.out.to hb1 (Nat.le_refl _))
      clear hb1
      obtain ⟨q0, q1, q2, q3⟩ := HK1.out
      go_wp2_with fail
      refine (small_c tn td htn htd _).mono ?_
      rintro e w2 ⟨rfl, hb2⟩
      rw [k2]
      have HB2 := Lib.hid (HB1.out.trans (hb2.mono HB1.out.size))
      have HK2 := Lib.hid (four_below hb2 HK1.out)
      have HU2 := Lib.hid (HU1.out.to hb2 (Nat.le_refl _))
      clear hb2 q0 q1 q2 q3
      obtain ⟨q0, q1, q2, q3⟩ := HK2.out
      go_wp2_with fail
      refine (Hp1.out _ HU2.out).mono ?_
      rintro e w3 ⟨rfl, hb3⟩
      have HB3 := Lib.hid (HB2.out.trans (hb3.mono HB2.out.size))
      have HK3 := Lib.hid (four_below hb3 HK2.out)
      have HU3 := Lib.hid (HU2.out.to hb3 (Nat.le_refl _))
      clear hb3 q0 q1 q2 q3
      obtain ⟨q0, q1, q2, q3⟩ := HK3.out
      go_wp2_with fail
      refine (Hp2.out _ HU3.out).mono ?_
      rintro e w4 ⟨rfl, hb4⟩
      have HB4 := Lib.hid (HB3.out.trans (hb4.mono HB3.out.size))
      have HK4 := Lib.hid (four_below hb4 HK3.out)
      clear hb4 q0 q1 q2 q3
      obtain ⟨q0, q1, q2, q3⟩ := HK4.out
      go_wp2_with fail
      refine (Hmul.out _).mono ?_
      rintro e w5 ⟨rfl, hb5⟩
      have HB5 := Lib.hid (HB4.out.trans (hb5.mono HB4.out.size))
      have HK5 := Lib.hid (four_below hb5 HK4.out)
      have hs5 := hb5.size
      clear hb5 q0 q1 q2 q3
      obtain ⟨q0, q1, q2, q3⟩ := HK5.out
      go_upto_region 8 with fail
      obtain ⟨w6, hw6⟩ : ∃ w6, w6 = w5.alloc (Obj.cells #[Value.int IntKind.i64 m1, Value.int IntKind.i64 m2] 23) := ⟨_, rfl⟩
      rw [← hw6]
      have hsz6 : w6.heap.size = w5.heap.size + 1 := by rw [hw6]; simp
      have hb6 : Below w5.heap.size w5 w6 := by rw [hw6]; exact (Below.refl _ _).alloc (Nat.le_refl _) _
      have C6 := Lib.hid (show Cel w6 w5.heap.size 23 #[.int .i64 m1, .int .i64 m2] by rw [hw6]; exact Cel.made _ _ _)
      have HB6 := Lib.hid (HB5.out.trans (hb6.mono HB5.out.size))
      have HK6 := Lib.hid (four_below hb6 HK5.out)
      have hge : w.heap.size ≤ w5.heap.size := HB5.out.size
      clear hw6 hb6 q0 q1 q2 q3 hs5
      generalize w5.heap.size = E at *
      obtain ⟨q0, q1, q2, q3⟩ := HK6.out
      have x0 : w6.cell? ⟨E, 0, none⟩ = some (.int .i64 m1) := C6.out.cell 0
      have x1 : w6.cell? ⟨E, 1, none⟩ = some (.int .i64 m2) := C6.out.cell 1
      go_wp2_with fail
      refine (Hdiv.out _).mono ?_
      rintro e w7 ⟨rfl, hb7⟩
      have HB7 := Lib.hid (HB6.out.trans (hb7.mono HB6.out.size))
      have C7 := Lib.hid (C6.out.below hb7)
      clear hb7 q0 q1 q2 q3 x0 x1
      have y0 : w7.cell? ⟨E, 0, none⟩ = some (.int .i64 m1) := C7.out.cell 0
      have y1 : w7.cell? ⟨E, 1, none⟩ = some (.int .i64 m2) := C7.out.cell 1
      have y2 : w7.frozen? ⟨E, 0, none⟩ = false := C7.out.free 0
      have y3 : w7.frozen? ⟨E, 1, none⟩ = false := C7.out.free 1
      go_upto_region 9 with fail
      obtain ⟨w8, hw8⟩ : ∃ w8, w8 = (w7.setCell ⟨E, 0, none⟩ (.int .i64 e1)).setCell ⟨E, 1, none⟩ (.int .i64 e2) := ⟨_, rfl⟩
      rw [← hw8]
      have C8 := Lib.hid (show Cel w8 E 23 #[.int .i64 e1, .int .i64 e2] by rw [hw8]; simpa using (C7.out.store 0 (.int .i64 e1)).store 1 (.int .i64 e2))
      have HB8 := Lib.hid (show Below w.heap.size w w8 by rw [hw8]; exact (HB7.out.setCell (by exact hge) _).setCell (by exact hge) _)
      clear y0 y1 y2 y3 hw8
      have x0 : w8.cell? ⟨E, 0, none⟩ = some (.int .i64 e1) := C8.out.cell 0
      have x1 : w8.cell? ⟨E, 1, none⟩ = some (.int .i64 e2) := C8.out.cell 1
      go_wp2_with fail
      refine (Hneg.out _).mono ?_
      rintro e w9 ⟨rfl, hb9⟩
      have HB9 := Lib.hid (HB8.out.trans (hb9.mono HB8.out.size))
      clear hb9 x0 x1
      go_wp2_with fail
      refine (Hadd.out _).mono ?_
      rintro e w10 ⟨rfl, hb10⟩
      have HB10 := Lib.hid (HB9.out.trans (hb10.mono HB9.out.size))
      clear hb10
      go_upto_region 10 with fail
      obtain ⟨w11, hw11⟩ : ∃ w11, w11 = w10.alloc (Obj.cells #[Value.int IntKind.i64 o1, Value.int IntKind.i64 o2] 23) := ⟨_, rfl⟩
      rw [← hw11]
      have hb11 : Below w10.heap.size w10 w11 := by rw [hw11]; exact (Below.refl _ _).alloc (Nat.le_refl _) _
      have C11 := Lib.hid (show Cel w11 w10.heap.size 23 #[.int .i64 o1, .int .i64 o2] by rw [hw11]; exact Cel.made _ _ _)
      have HB11 := Lib.hid (HB10.out.trans (hb11.mono HB10.out.size))
      clear hw11 hb11
      generalize w10.heap.size = G at *
      have bad : ∀ W3 : World, True := fun _ => trivial
      clear bad
      by_cases z1 : m3 = 0
      · subst z1
        by_cases z2 : e3 = 0
        · subst z2
          by_cases z3 : o3 = 0
          · subst z3
            obtain ⟨c1, c2⟩ := Hcond.out rfl rfl rfl
            go_upto_region 13 with fail
            obtain ⟨w12, hw12⟩ : ∃ w12, w12 = w11.alloc (Obj.cells #[Value.int IntKind.i64 1, Value.int IntKind.i64 2] 23) := ⟨_, rfl⟩
            rw [← hw12]
            have hb12 : Below w11.heap.size w11 w12 := by rw [hw12]; exact (Below.refl _ _).alloc (Nat.le_refl _) _
            have C12 := Lib.hid (show Cel w12 w11.heap.size 23 #[.int .i64 1, .int .i64 2] by rw [hw12]; exact Cel.made _ _ _)
            have C13 := Lib.hid (C11.out.below hb12)
            have HB12 := Lib.hid (HB11.out.trans (hb12.mono HB11.out.size))
            clear hw12 hb12
            generalize w11.heap.size = F at *
            have p0 : w12.cell? ⟨G, 0, none⟩ = some (.int .i64 o1) := C13.out.cell 0
            have p1 : w12.cell? ⟨G, 1, none⟩ = some (.int .i64 o2) := C13.out.cell 1
            have p2 : w12.cell? ⟨F, 0, none⟩ = some (.int .i64 1) := C12.out.cell 0
            have p3 : w12.cell? ⟨F, 1, none⟩ = some (.int .i64 2) := C12.out.cell 1
            have r0 := cell_regrown p0
            have r1 := cell_regrown p1
            have r2 := cell_regrown p2
            have r3 := cell_regrown p3
            generalize RM.cmpS o1 o2 1 2 = A at *
            generalize RM.cmpS o1 o2 (-1) 2 = B at *
            have dA : decide (A ≤ 0) = true := by simpa using c1
            have dB : decide (0 < B) = true := by simpa using c2
            clear p0 p1 p2 p3
            refine wp_region_quiet_below (by kernel_rfl) (by kernel_rfl) ?_
            repeat (quiet_step (first | (go_at_call 10; exact Calls.regrown_of (awake_c _)) | (go_at_call 20; exact Calls.regrown_of (Hn1.out _)) | (go_at_call 21; first | (with_reducible exact Calls.regrown_of (Hc1.out _)) | (with_reducible exact Calls.regrown_of (Hc2.out _)))))
            refine wpQuiet_nil ?_
            intro _ hw'
            obtain ⟨⟨dq, osq⟩, hw''⟩ := hw'
            have hbq := below_regrown w12 dq osq
            rw [← hw''] at hbq
            have Hbq := Lib.hid (HB12.out.trans (hbq.mono HB12.out.size))
            clear hbq hw'' r0 r1 r2 r3
            go_wp2
            go_ret
            exact ⟨rfl, Hbq.out⟩
          · have b3 : (o3 != 0) = true := by simpa using z3
            clear z3
            go_wp2_with fail
            refine (awake_c _).mono ?_
            rintro e w13 ⟨rfl, hb13⟩
            have HB13 := Lib.hid (HB11.out.trans (hb13.mono HB11.out.size))
            clear hb13
            go_wp2
            go_ret
            exact ⟨rfl, HB13.out⟩
        · have b2 : (e3 != 0) = true := by simpa using z2
          clear z2
          go_wp2_with fail
          refine (awake_c _).mono ?_
          rintro e w13 ⟨rfl, hb13⟩
          have HB13 := Lib.hid (HB11.out.trans (hb13.mono HB11.out.size))
          clear hb13
          go_wp2
          go_ret
          exact ⟨rfl, HB13.out⟩
      · have b1 : (m3 != 0) = true := by simpa using z1
        clear z1
        go_wp2_with fail
        refine (awake_c _).mono ?_
        rintro e w13 ⟨rfl, hb13⟩
        have HB13 := Lib.hid (HB11.out.trans (hb13.mono HB11.out.size))
        clear hb13
        go_wp2
        go_ret
        exact ⟨rfl, HB13.out⟩

theorem lawNearest_c (w : World) (hU : Us w) : Calls Tryd.prog 6 #[.int .i64 n, .int .i64 m, .agg #[.int .i64 fn, .int .i64 fd], .agg #[.int .i64 tn, .int .i64 td]] w fun e w' => e = .returned (.bool true) ∧ Below w.heap.size w w' := by
  by_cases hs : (0 ≤ n ∧ n ≤ 1048576) ∧ (0 ≤ m ∧ m ≤ 1048576)
  · exact near_in n m fn fd tn td hn hm hfn hfd htn htd w hU hs
  · exact near_out n m fn fd tn td hn hm hfn hfd htn htd w hs
end
end Go.Proofs.YthcgcmmkajjhhaaDoor
