/- Format, on both sides. -/
import Derived.Test.YthcgcmmkajjhhaaDoorRatFD
import Derived.Test.YthcgcmmkajjhhaaDoorRatShelf
import Derived.Handy
import Derived.Lib.SmallJoins
import Derived.Lib.AppendIntMem
namespace Go.Proofs.YthcgcmmkajjhhaaDoor
open Go.RowKit

/-- the table of powers lies in its variable -/
def Pw (w : World) : Prop := Lib.TabIs Tryd.prog w "internal/strconv.uint64pow10" .u64 Lib.pow10Tab
theorem Pw.to {w w' : World} {B : Nat} (h : Pw w) (hb : Below B w w') (hB : w.heap.size ≤ B) : Pw w' := Joins.tab_stays (g := 3) (by kernel_rfl) h hb hB
set_option maxHeartbeats 400000 in
theorem fint_c (n : Int) (h : -9223372036854775808 ≤ n ∧ n ≤ 9223372036854775807) (w : World) (hw : Pw w) :
    Calls Tryd.prog 35 #[.int .i64 n, .int .i64 10] w fun e w' => e = .returned (.string ⟨(Lib.itoa n).toArray⟩) ∧ Below w.heap.size w w' := by
  have HW := Lib.hid hw
  clear hw
  go_enter Tryd.func35, Tryd.ntmps35
  go_wp2_with fail
  refine (Tryd.internal_strconv_FormatInt_10 n h.1 h.2 _ HW.out).mono ?_
  rintro e w1 ⟨rfl, k, os, hw1⟩
  have hb : Below w.heap.size w w1 := by
    rw [hw1]
    exact Lib.below_grow _ _ (Nat.le_refl _) _ _
  have HB := Lib.hid hb
  clear hw1 hb
  go_wp2
  go_ret
  exact ⟨rfl, HB.out⟩

set_option maxHeartbeats 1000000 in
theorem fmt_c (n d : Int) (hn : -9223372036854775808 ≤ n ∧ n ≤ 9223372036854775807) (hd : -9223372036854775808 ≤ d ∧ d ≤ 9223372036854775807) (w : World) (hw : Pw w) :
    Calls Tryd.prog 11 #[.agg #[.int .i64 n, .int .i64 d]] w fun e w' => e = .returned (.string ⟨(FL n d).toArray⟩) ∧ Below w.heap.size w w' := by
  have ln := itoa_len n hn
  have ld := itoa_len d hd
  have b0 : Below w.heap.size w (w.alloc (.cells #[.int .i64 n, .int .i64 d] 23)) := (Below.refl _ _).alloc (Nat.le_refl _) _
  have HW0 := Lib.hid (hw.to b0 (Nat.le_refl _))
  have HB0 := Lib.hid b0
  clear hw b0
  cases k1 : RM.ok n d
  · have HE := Lib.hid (FL_bad k1)
    go_enter Tryd.func11, Tryd.ntmps11
    go_wp2_with fail
    refine (valid_c n d hn hd _).mono ?_
    rintro e w1 ⟨rfl, hb1⟩
    rw [k1]
    have HB1 := Lib.hid (HB0.out.trans (hb1.mono (by simp)))
    clear hb1
    go_wp2
    go_ret
    exact ⟨by rw [HE.out]; rfl, HB1.out⟩
  · by_cases h1 : d = 1
    · have HE := Lib.hid (FL_one k1 h1)
      subst h1
      go_enter Tryd.func11, Tryd.ntmps11
      go_wp2_with fail
      refine (valid_c n 1 hn hd _).mono ?_
      rintro e w1 ⟨rfl, hb1⟩
      rw [k1]
      have HB1 := Lib.hid (HB0.out.trans (hb1.mono (by simp)))
      have HW1 := Lib.hid (HW0.out.to hb1 (Nat.le_refl _))
      have q0 := (old_cell hb1 w.heap.size 0 (by simp)).trans (by go_simp : _ = some (.int .i64 n))
      have q1 := (old_cell hb1 w.heap.size 1 (by simp)).trans (by go_simp : _ = some (.int .i64 1))
      have l1 : w.heap.size < w1.heap.size := by have := hb1.size; simp at this; omega
      clear hb1
      go_wp2_with fail
      refine (fint_c n hn _ HW1.out).mono ?_
      rintro e w2 ⟨rfl, hb2⟩
      have HB2 := Lib.hid (HB1.out.trans (hb2.mono (by omega)))
      have q1 := (old_cell hb2 w.heap.size 1 l1).trans q1
      clear hb2 q0
      go_wp2
      go_ret
      exact ⟨by rw [HE.out]; rfl, HB2.out⟩
    · have HE := Lib.hid (FL_two k1 h1)
      have hd1 : (d == 1) = false := by simpa using h1
      have a1 := ba_app (Lib.itoa n) [47]
      have a2 := ba_app (Lib.itoa n ++ [47]) (Lib.itoa d)
      have l3 : (Lib.itoa n ++ [47]).length ≤ 22 := by rw [List.length_append]; simp; omega
      have hA : ∃ X, X = Lib.itoa n ++ [47] := ⟨_, rfl⟩
      obtain ⟨X, hX⟩ := hA
      rw [← hX] at a1 a2 l3 HE
      have hY : ∃ Y, Y = X ++ Lib.itoa d := ⟨_, rfl⟩
      obtain ⟨Y, hY⟩ := hY
      rw [← hY] at a2 HE
      have HX := Lib.hid hX
      clear h1 hX hY
      go_enter Tryd.func11, Tryd.ntmps11
      go_wp2_with fail
      refine (valid_c n d hn hd _).mono ?_
      rintro e w1 ⟨rfl, hb1⟩
      rw [k1]
      have HB1 := Lib.hid (HB0.out.trans (hb1.mono (by simp)))
      have HW1 := Lib.hid (HW0.out.to hb1 (Nat.le_refl _))
      have q0 := (old_cell hb1 w.heap.size 0 (by simp)).trans (by go_simp : _ = some (.int .i64 n))
      have q1 := (old_cell hb1 w.heap.size 1 (by simp)).trans (by go_simp : _ = some (.int .i64 d))
      have l1 : w.heap.size < w1.heap.size := by have := hb1.size; simp at this; omega
      clear hb1
      go_wp2_with fail
      refine (fint_c n hn _ HW1.out).mono ?_
      rintro e w2 ⟨rfl, hb2⟩
      have HB2 := Lib.hid (HB1.out.trans (hb2.mono (by omega)))
      have HW2 := Lib.hid (HW1.out.to hb2 (Nat.le_refl _))
      have q1 := (old_cell hb2 w.heap.size 1 l1).trans q1
      have l2 : w.heap.size < w2.heap.size := by have := hb2.size; omega
      clear hb2 q0
      go_wp2_with fail
      refine (fint_c d hd _ HW2.out).mono ?_
      rintro e w3 ⟨rfl, hb3⟩
      have HB3 := Lib.hid (HB2.out.trans (hb3.mono (by omega)))
      clear hb3 q1
      generalize Lib.itoa d = D at *
      generalize Lib.itoa n = N at *
      go_wp2
      go_ret
      exact ⟨by rw [HE.out]; rfl, HB3.out⟩


set_option maxRecDepth 20000 in
set_option maxHeartbeats 1000000 in
theorem rfmt_c (n d : Int) (hn : -9223372036854775808 ≤ n ∧ n ≤ 9223372036854775807) (hd : -9223372036854775808 ≤ d ∧ d ≤ 9223372036854775807) (w : World) :
    Calls Tryd.prog 12 #[.agg #[.int .i64 n, .int .i64 d]] w fun e w' => e = .returned (.string ⟨(FL n d).toArray⟩) ∧ Below w.heap.size w w' := by
  have ln := dec_len20 n.natAbs (by omega)
  have b0 : Below w.heap.size w (w.alloc (.cells #[.int .i64 n, .int .i64 d] 23)) := (Below.refl _ _).alloc (Nat.le_refl _) _
  have HB0 := Lib.hid b0
  clear b0
  cases k1 : RM.ok n d
  · have HE := Lib.hid (FL_bad k1)
    go_enter Tryd.func12, Tryd.ntmps12
    go_wp2_with fail
    refine (rvalid_c n d hn hd _).mono ?_
    rintro e w1 ⟨rfl, hb1⟩
    rw [k1]
    have HB1 := Lib.hid (HB0.out.trans (hb1.mono (by simp)))
    clear hb1
    go_wp2
    go_ret
    exact ⟨by rw [HE.out]; rfl, HB1.out⟩
  · have hd0 := (RM.ok_parts k1).1
    have ldd := dec_len20 d.toNat (by omega)
    have hdd : Lib.itoa d = Lib.decDigits d.toNat := by unfold Lib.itoa; rw [if_neg (by omega)]
    have hrd := dec_c d.toNat (by omega)
    have hrn := dec_c n.natAbs (by omega)
    rw [Int.toNat_of_nonneg (by omega)] at hrd
    have Hrd := Lib.hid hrd; have Hrn := Lib.hid hrn
    clear hrd hrn
    by_cases hneg : n < 0
    · by_cases h1 : d = 1
      · have dneg : decide (n < 0) = true := by simpa using hneg
        have done : decide (1 < d) = false := by simp; omega
        have hFL : FL n d = Lib.itoa n := FL_one k1 h1
        rw [itoa_neg hneg] at hFL
        generalize Lib.decDigits n.natAbs = N at *
        generalize Lib.decDigits d.toNat = D at *
        have a0 := ba_app [45] N
        obtain ⟨M, hM⟩ : ∃ M, M = [45] ++ N := ⟨_, rfl⟩
        rw [← hM] at a0 hFL
        have lM : M.length ≤ 21 := by rw [hM, List.length_append]; simp; omega
        clear hM
        have HE := Lib.hid hFL
        clear hFL hneg h1 hdd
        go_enter Tryd.func12, Tryd.ntmps12
        go_wp2_with fail
        refine (rvalid_c n d hn hd _).mono ?_
        rintro e w1 ⟨rfl, hb1⟩
        rw [k1]
        have HB1 := Lib.hid (HB0.out.trans (hb1.mono (by simp)))
        have q0 := (old_cell hb1 w.heap.size 0 (by simp)).trans (by go_simp : _ = some (.int .i64 n))
        have q1 := (old_cell hb1 w.heap.size 1 (by simp)).trans (by go_simp : _ = some (.int .i64 d))
        have l1 : w.heap.size < w1.heap.size := by have := hb1.size; simp at this; omega
        clear hb1
        go_wp2_with fail
        refine (rmag_c n hn _).mono ?_
        rintro e w2 ⟨rfl, rfl⟩
        go_wp2_with fail
        refine (Hrn.out _).mono ?_
        rintro e w2 ⟨rfl, hb2⟩
        have HB2 := Lib.hid (HB1.out.trans (hb2.mono (by omega)))
        have q0 := (old_cell hb2 w.heap.size 0 l1).trans q0
        have q1 := (old_cell hb2 w.heap.size 1 l1).trans q1
        have l2 : w.heap.size < w2.heap.size := by have := hb2.size; omega
        clear hb2
        go_wp2
        go_ret
        exact ⟨by rw [HE.out]; rfl, HB2.out⟩
      · have dneg : decide (n < 0) = true := by simpa using hneg
        have done : decide (1 < d) = true := by simp; omega
        have hFL : FL n d = Lib.itoa n ++ [47] ++ Lib.itoa d := FL_two k1 h1
        rw [hdd, itoa_neg hneg] at hFL
        generalize Lib.decDigits n.natAbs = N at *
        generalize Lib.decDigits d.toNat = D at *
        have a0 := ba_app [45] N
        obtain ⟨M, hM⟩ : ∃ M, M = [45] ++ N := ⟨_, rfl⟩
        rw [← hM] at a0 hFL
        have lM : M.length ≤ 21 := by rw [hM, List.length_append]; simp; omega
        clear hM
        have a1 := ba_app M [47]
        obtain ⟨X, hX⟩ : ∃ X, X = M ++ [47] := ⟨_, rfl⟩
        rw [← hX] at a1 hFL
        have lX : X.length ≤ 22 := by rw [hX, List.length_append]; simp; omega
        have a2 := ba_app X D
        obtain ⟨Y, hY⟩ : ∃ Y, Y = X ++ D := ⟨_, rfl⟩
        rw [← hY] at a2 hFL
        clear hX hY
        have HE := Lib.hid hFL
        clear hFL hneg h1 hdd
        go_enter Tryd.func12, Tryd.ntmps12
        go_wp2_with fail
        refine (rvalid_c n d hn hd _).mono ?_
        rintro e w1 ⟨rfl, hb1⟩
        rw [k1]
        have HB1 := Lib.hid (HB0.out.trans (hb1.mono (by simp)))
        have q0 := (old_cell hb1 w.heap.size 0 (by simp)).trans (by go_simp : _ = some (.int .i64 n))
        have q1 := (old_cell hb1 w.heap.size 1 (by simp)).trans (by go_simp : _ = some (.int .i64 d))
        have l1 : w.heap.size < w1.heap.size := by have := hb1.size; simp at this; omega
        clear hb1
        go_wp2_with fail
        refine (rmag_c n hn _).mono ?_
        rintro e w2 ⟨rfl, rfl⟩
        go_wp2_with fail
        refine (Hrn.out _).mono ?_
        rintro e w2 ⟨rfl, hb2⟩
        have HB2 := Lib.hid (HB1.out.trans (hb2.mono (by omega)))
        have q0 := (old_cell hb2 w.heap.size 0 l1).trans q0
        have q1 := (old_cell hb2 w.heap.size 1 l1).trans q1
        have l2 : w.heap.size < w2.heap.size := by have := hb2.size; omega
        clear hb2
        have wd : IntKind.u64.wrap d = d := by simp only [IntKind.wrap_u64]; omega
        go_wp2_with fail
        refine (Hrd.out _).mono ?_
        rintro e w3 ⟨rfl, hb3⟩
        have HB3 := Lib.hid (HB2.out.trans (hb3.mono (by omega)))
        clear hb3
        go_wp2
        go_ret
        exact ⟨by rw [HE.out]; rfl, HB3.out⟩
    · by_cases h1 : d = 1
      · have dneg : decide (n < 0) = false := by simpa using hneg
        have done : decide (1 < d) = false := by simp; omega
        have hFL : FL n d = Lib.itoa n := FL_one k1 h1
        rw [itoa_pos hneg] at hFL
        generalize Lib.decDigits n.natAbs = N at *
        generalize Lib.decDigits d.toNat = D at *
        have HE := Lib.hid hFL
        clear hFL hneg h1 hdd
        go_enter Tryd.func12, Tryd.ntmps12
        go_wp2_with fail
        refine (rvalid_c n d hn hd _).mono ?_
        rintro e w1 ⟨rfl, hb1⟩
        rw [k1]
        have HB1 := Lib.hid (HB0.out.trans (hb1.mono (by simp)))
        have q0 := (old_cell hb1 w.heap.size 0 (by simp)).trans (by go_simp : _ = some (.int .i64 n))
        have q1 := (old_cell hb1 w.heap.size 1 (by simp)).trans (by go_simp : _ = some (.int .i64 d))
        have l1 : w.heap.size < w1.heap.size := by have := hb1.size; simp at this; omega
        clear hb1
        go_wp2_with fail
        refine (rmag_c n hn _).mono ?_
        rintro e w2 ⟨rfl, rfl⟩
        go_wp2_with fail
        refine (Hrn.out _).mono ?_
        rintro e w2 ⟨rfl, hb2⟩
        have HB2 := Lib.hid (HB1.out.trans (hb2.mono (by omega)))
        have q0 := (old_cell hb2 w.heap.size 0 l1).trans q0
        have q1 := (old_cell hb2 w.heap.size 1 l1).trans q1
        have l2 : w.heap.size < w2.heap.size := by have := hb2.size; omega
        clear hb2
        go_wp2
        go_ret
        exact ⟨by rw [HE.out]; rfl, HB2.out⟩
      · have dneg : decide (n < 0) = false := by simpa using hneg
        have done : decide (1 < d) = true := by simp; omega
        have hFL : FL n d = Lib.itoa n ++ [47] ++ Lib.itoa d := FL_two k1 h1
        rw [hdd, itoa_pos hneg] at hFL
        generalize Lib.decDigits n.natAbs = N at *
        generalize Lib.decDigits d.toNat = D at *
        have a1 := ba_app N [47]
        obtain ⟨X, hX⟩ : ∃ X, X = N ++ [47] := ⟨_, rfl⟩
        rw [← hX] at a1 hFL
        have lX : X.length ≤ 22 := by rw [hX, List.length_append]; simp; omega
        have a2 := ba_app X D
        obtain ⟨Y, hY⟩ : ∃ Y, Y = X ++ D := ⟨_, rfl⟩
        rw [← hY] at a2 hFL
        clear hX hY
        have HE := Lib.hid hFL
        clear hFL hneg h1 hdd
        go_enter Tryd.func12, Tryd.ntmps12
        go_wp2_with fail
        refine (rvalid_c n d hn hd _).mono ?_
        rintro e w1 ⟨rfl, hb1⟩
        rw [k1]
        have HB1 := Lib.hid (HB0.out.trans (hb1.mono (by simp)))
        have q0 := (old_cell hb1 w.heap.size 0 (by simp)).trans (by go_simp : _ = some (.int .i64 n))
        have q1 := (old_cell hb1 w.heap.size 1 (by simp)).trans (by go_simp : _ = some (.int .i64 d))
        have l1 : w.heap.size < w1.heap.size := by have := hb1.size; simp at this; omega
        clear hb1
        go_wp2_with fail
        refine (rmag_c n hn _).mono ?_
        rintro e w2 ⟨rfl, rfl⟩
        go_wp2_with fail
        refine (Hrn.out _).mono ?_
        rintro e w2 ⟨rfl, hb2⟩
        have HB2 := Lib.hid (HB1.out.trans (hb2.mono (by omega)))
        have q0 := (old_cell hb2 w.heap.size 0 l1).trans q0
        have q1 := (old_cell hb2 w.heap.size 1 l1).trans q1
        have l2 : w.heap.size < w2.heap.size := by have := hb2.size; omega
        clear hb2
        have wd : IntKind.u64.wrap d = d := by simp only [IntKind.wrap_u64]; omega
        go_wp2_with fail
        refine (Hrd.out _).mono ?_
        rintro e w3 ⟨rfl, hb3⟩
        have HB3 := Lib.hid (HB2.out.trans (hb3.mono (by omega)))
        clear hb3
        go_wp2
        go_ret
        exact ⟨by rw [HE.out]; rfl, HB3.out⟩
end Go.Proofs.YthcgcmmkajjhhaaDoor
