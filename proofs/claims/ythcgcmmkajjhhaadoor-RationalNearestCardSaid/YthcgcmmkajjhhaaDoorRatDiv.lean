/- The code's Div. -/
import Derived.Test.YthcgcmmkajjhhaaDoorRatMul
namespace Go.Proofs.YthcgcmmkajjhhaaDoor
open Go.RowKit
namespace RM
theorem divS_bad1 {a b c d : Int} (h : ok a b = false) : divS a b c d = (0, 0, 1) := by simp [divS, h]
theorem divS_bad2 {a b c d : Int} (h : ok c d = false) : divS a b c d = (0, 0, 1) := by simp [divS, h]
theorem divS_zero {a b c d : Int} (h : c = 0) : divS a b c d = (0, 0, 1) := by simp [divS, h]
theorem q_divInt (c d : Int) (h : 0 ≤ d) : q c d = Rat.divInt c d := by
  unfold q
  rw [← Rat.divInt_ofNat, Int.toNat_of_nonneg h]
theorem ok_inv {c d : Int} (h : ok c d = true) (h0 : 0 < c) : ok d c = true := by
  obtain ⟨h1, h2, h3⟩ := ok_parts h
  simp only [ok, decide_eq_true_eq]
  rw [Nat.gcd_comm]
  omega
theorem ok_invn {c d : Int} (h : ok c d = true) (h0 : c < 0) (hd : d ≤ 9223372036854775807) : ok (-d) (-c) = true := by
  obtain ⟨h1, h2, h3⟩ := ok_parts h
  simp only [ok, decide_eq_true_eq, Int.natAbs_neg]
  rw [Nat.gcd_comm]
  omega
theorem divS_pos {a b c d : Int} (h1 : ok a b = true) (h2 : ok c d = true) (h0 : 0 < c) : mulS a b d c = divS a b c d := by
  have p := ok_parts h2
  rw [mulS, if_pos ⟨h1, ok_inv h2 h0⟩, divS, if_pos ⟨h1, h2, by omega⟩, Rat.div_def, q_divInt c d (by omega), q_divInt d c (by omega), Rat.inv_divInt]
theorem divS_neg {a b c d : Int} (h1 : ok a b = true) (h2 : ok c d = true) (h0 : c < 0) (hd : d ≤ 9223372036854775807) : mulS a b (-d) (-c) = divS a b c d := by
  have p := ok_parts h2
  rw [mulS, if_pos ⟨h1, ok_invn h2 h0 hd⟩, divS, if_pos ⟨h1, h2, by omega⟩, Rat.div_def, q_divInt c d (by omega), q_divInt (-d) (-c) (by omega), Rat.inv_divInt, Rat.neg_divInt_neg]
end RM

set_option linter.unusedSimpArgs false in
set_option linter.unusedVariables false in
set_option maxHeartbeats 4000000 in
theorem Div_c (a b c d : Int) (ha : -9223372036854775808 ≤ a ∧ a ≤ 9223372036854775807) (hb : -9223372036854775808 ≤ b ∧ b ≤ 9223372036854775807) (hc : -9223372036854775808 ≤ c ∧ c ≤ 9223372036854775807) (hd : -9223372036854775808 ≤ d ∧ d ≤ 9223372036854775807) (w : World) :
    Calls Tryd.prog 47 #[.agg #[.int .i64 a, .int .i64 b], .agg #[.int .i64 c, .int .i64 d]] w fun e w' => e = .returned (.tuple #[.agg #[.int .i64 (RM.divS a b c d).1, .int .i64 (RM.divS a b c d).2.1], .int .i64 (RM.divS a b c d).2.2]) ∧ Below w.heap.size w w' := by
  cases k1 : RM.ok a b
  · have HE := Lib.hid (RM.divS_bad1 (c := c) (d := d) k1)
    go_enter Tryd.func47, Tryd.ntmps47
    go_wp2_with fail
    refine (valid_c a b ha hb _).mono ?_
    rintro e w1 ⟨rfl, hb1⟩
    have hc1 := old_cell hb1
    have hf1 := old_frozen hb1
    have hs1 := hb1.size
    (try simp only [World.size_alloc, World.size_setCell, World.size_drew, size_drewN] at hs1)
    have lw_1 : w.heap.size < w1.heap.size := (by omega)
    have mw_1 : w.heap.size < w1.heap.size + 1 := (by omega)
    have nw_1 : ¬ w.heap.size = w1.heap.size := (by omega)
    have lwp1_1 : w.heap.size + 1 < w1.heap.size := (by omega)
    have mwp1_1 : w.heap.size + 1 < w1.heap.size + 1 := (by omega)
    have nwp1_1 : ¬ w.heap.size + 1 = w1.heap.size := (by omega)
    have ly_1 : w.heap.size + 1 + 1 < w1.heap.size := (by omega)
    have ny_1 : ¬ w.heap.size + 1 + 1 = w1.heap.size := (by omega)
    go_wp2
    refine bodyPost_ret (v := .tuple #[.agg #[.int .i64 0, .int .i64 0], .int .i64 1]) (by simp [results, Tryd.results47, go_sem, *]) rfl ⟨ret_rat HE.out, ?_⟩
    (repeat' (first | (with_reducible exact Below.refl _ _) | (with_reducible refine Below.alloc ?_ ?_ _) | (with_reducible refine below_drewN' ?_ _) | (with_reducible refine Below.drew ?_) | (with_reducible refine Below.setCell ?_ ?_ _) | (with_reducible refine Below.trans ?_ (Below.mono (by with_reducible assumption) ?_)) | go_size))
  · cases k2 : RM.ok c d
    · have HE := Lib.hid (RM.divS_bad2 (a := a) (b := b) k2)
      go_enter Tryd.func47, Tryd.ntmps47
      go_wp2_with fail
      refine (valid_c a b ha hb _).mono ?_
      rintro e w1 ⟨rfl, hb1⟩
      have hc1 := old_cell hb1
      have hf1 := old_frozen hb1
      have hs1 := hb1.size
      (try simp only [World.size_alloc, World.size_setCell, World.size_drew, size_drewN] at hs1)
      have lw_1 : w.heap.size < w1.heap.size := (by omega)
      have mw_1 : w.heap.size < w1.heap.size + 1 := (by omega)
      have nw_1 : ¬ w.heap.size = w1.heap.size := (by omega)
      have lwp1_1 : w.heap.size + 1 < w1.heap.size := (by omega)
      have mwp1_1 : w.heap.size + 1 < w1.heap.size + 1 := (by omega)
      have nwp1_1 : ¬ w.heap.size + 1 = w1.heap.size := (by omega)
      have ly_1 : w.heap.size + 1 + 1 < w1.heap.size := (by omega)
      have ny_1 : ¬ w.heap.size + 1 + 1 = w1.heap.size := (by omega)
      go_wp2_with fail
      refine (valid_c c d hc hd _).mono ?_
      rintro e w2 ⟨rfl, hb2⟩
      have hc2 := old_cell hb2
      have hf2 := old_frozen hb2
      have hs2 := hb2.size
      (try simp only [World.size_alloc, World.size_setCell, World.size_drew, size_drewN] at hs2)
      have lw_2 : w.heap.size < w2.heap.size := (by omega)
      have mw_2 : w.heap.size < w2.heap.size + 1 := (by omega)
      have nw_2 : ¬ w.heap.size = w2.heap.size := (by omega)
      have lwp1_2 : w.heap.size + 1 < w2.heap.size := (by omega)
      have mwp1_2 : w.heap.size + 1 < w2.heap.size + 1 := (by omega)
      have nwp1_2 : ¬ w.heap.size + 1 = w2.heap.size := (by omega)
      have ly_2 : w.heap.size + 1 + 1 < w2.heap.size := (by omega)
      have ny_2 : ¬ w.heap.size + 1 + 1 = w2.heap.size := (by omega)
      go_wp2
      refine bodyPost_ret (v := .tuple #[.agg #[.int .i64 0, .int .i64 0], .int .i64 1]) (by simp [results, Tryd.results47, go_sem, *]) rfl ⟨ret_rat HE.out, ?_⟩
      (repeat' (first | (with_reducible exact Below.refl _ _) | (with_reducible refine Below.alloc ?_ ?_ _) | (with_reducible refine below_drewN' ?_ _) | (with_reducible refine Below.drew ?_) | (with_reducible refine Below.setCell ?_ ?_ _) | (with_reducible refine Below.trans ?_ (Below.mono (by with_reducible assumption) ?_)) | go_size))
    · by_cases h0 : c = 0
      · have HE := Lib.hid (RM.divS_zero (a := a) (b := b) (d := d) h0)
        have d0 : (c == 0) = true := by simpa using h0
        clear h0
        go_enter Tryd.func47, Tryd.ntmps47
        go_wp2_with fail
        refine (valid_c a b ha hb _).mono ?_
        rintro e w1 ⟨rfl, hb1⟩
        have hc1 := old_cell hb1
        have hf1 := old_frozen hb1
        have hs1 := hb1.size
        (try simp only [World.size_alloc, World.size_setCell, World.size_drew, size_drewN] at hs1)
        have lw_1 : w.heap.size < w1.heap.size := (by omega)
        have mw_1 : w.heap.size < w1.heap.size + 1 := (by omega)
        have nw_1 : ¬ w.heap.size = w1.heap.size := (by omega)
        have lwp1_1 : w.heap.size + 1 < w1.heap.size := (by omega)
        have mwp1_1 : w.heap.size + 1 < w1.heap.size + 1 := (by omega)
        have nwp1_1 : ¬ w.heap.size + 1 = w1.heap.size := (by omega)
        have ly_1 : w.heap.size + 1 + 1 < w1.heap.size := (by omega)
        have ny_1 : ¬ w.heap.size + 1 + 1 = w1.heap.size := (by omega)
        go_wp2_with fail
        refine (valid_c c d hc hd _).mono ?_
        rintro e w2 ⟨rfl, hb2⟩
        have hc2 := old_cell hb2
        have hf2 := old_frozen hb2
        have hs2 := hb2.size
        (try simp only [World.size_alloc, World.size_setCell, World.size_drew, size_drewN] at hs2)
        have lw_2 : w.heap.size < w2.heap.size := (by omega)
        have mw_2 : w.heap.size < w2.heap.size + 1 := (by omega)
        have nw_2 : ¬ w.heap.size = w2.heap.size := (by omega)
        have lwp1_2 : w.heap.size + 1 < w2.heap.size := (by omega)
        have mwp1_2 : w.heap.size + 1 < w2.heap.size + 1 := (by omega)
        have nwp1_2 : ¬ w.heap.size + 1 = w2.heap.size := (by omega)
        have ly_2 : w.heap.size + 1 + 1 < w2.heap.size := (by omega)
        have ny_2 : ¬ w.heap.size + 1 + 1 = w2.heap.size := (by omega)
        go_wp2
        refine bodyPost_ret (v := .tuple #[.agg #[.int .i64 0, .int .i64 0], .int .i64 1]) (by simp [results, Tryd.results47, go_sem, *]) rfl ⟨ret_rat HE.out, ?_⟩
        (repeat' (first | (with_reducible exact Below.refl _ _) | (with_reducible refine Below.alloc ?_ ?_ _) | (with_reducible refine below_drewN' ?_ _) | (with_reducible refine Below.drew ?_) | (with_reducible refine Below.setCell ?_ ?_ _) | (with_reducible refine Below.trans ?_ (Below.mono (by with_reducible assumption) ?_)) | go_size))
      · have d0 : (c == 0) = false := by simpa using h0
        obtain ⟨v3, v4, _⟩ := RM.ok_parts k2
        by_cases hn : c < 0
        · have HE := Lib.hid (RM.divS_neg k1 k2 hn hd.2)
          go_enter Tryd.func47, Tryd.ntmps47
          go_wp2_with fail
          refine (valid_c a b ha hb _).mono ?_
          rintro e w1 ⟨rfl, hb1⟩
          have hc1 := old_cell hb1
          have hf1 := old_frozen hb1
          have hs1 := hb1.size
          (try simp only [World.size_alloc, World.size_setCell, World.size_drew, size_drewN] at hs1)
          have lw_1 : w.heap.size < w1.heap.size := (by omega)
          have mw_1 : w.heap.size < w1.heap.size + 1 := (by omega)
          have nw_1 : ¬ w.heap.size = w1.heap.size := (by omega)
          have lwp1_1 : w.heap.size + 1 < w1.heap.size := (by omega)
          have mwp1_1 : w.heap.size + 1 < w1.heap.size + 1 := (by omega)
          have nwp1_1 : ¬ w.heap.size + 1 = w1.heap.size := (by omega)
          have ly_1 : w.heap.size + 1 + 1 < w1.heap.size := (by omega)
          have ny_1 : ¬ w.heap.size + 1 + 1 = w1.heap.size := (by omega)
          go_wp2_with fail
          refine (valid_c c d hc hd _).mono ?_
          rintro e w2 ⟨rfl, hb2⟩
          have hc2 := old_cell hb2
          have hf2 := old_frozen hb2
          have hs2 := hb2.size
          (try simp only [World.size_alloc, World.size_setCell, World.size_drew, size_drewN] at hs2)
          have lw_2 : w.heap.size < w2.heap.size := (by omega)
          have mw_2 : w.heap.size < w2.heap.size + 1 := (by omega)
          have nw_2 : ¬ w.heap.size = w2.heap.size := (by omega)
          have lwp1_2 : w.heap.size + 1 < w2.heap.size := (by omega)
          have mwp1_2 : w.heap.size + 1 < w2.heap.size + 1 := (by omega)
          have nwp1_2 : ¬ w.heap.size + 1 = w2.heap.size := (by omega)
          have ly_2 : w.heap.size + 1 + 1 < w2.heap.size := (by omega)
          have ny_2 : ¬ w.heap.size + 1 + 1 = w2.heap.size := (by omega)
          have rc20 : w2.cell? ⟨w.heap.size + 1 + 1, 0, none⟩ = some (.int .i64 0) := by go_simp
          have rc21 : w2.cell? ⟨w.heap.size + 1 + 1, 1, none⟩ = some (.int .i64 0) := by go_simp
          have rf20 : w2.frozen? ⟨w.heap.size + 1 + 1, 0, none⟩ = false := by go_simp
          have rf21 : w2.frozen? ⟨w.heap.size + 1 + 1, 1, none⟩ = false := by go_simp
          go_wp2_with fail
          refine (Mul_c a b (-d) (-c) ha hb (by omega) (by omega) _).mono ?_
          rintro e w3 ⟨rfl, hb3⟩
          have hc3 := old_cell hb3
          have hf3 := old_frozen hb3
          have hs3 := hb3.size
          (try simp only [World.size_alloc, World.size_setCell, World.size_drew, size_drewN] at hs3)
          have lw_3 : w.heap.size < w3.heap.size := (by omega)
          have mw_3 : w.heap.size < w3.heap.size + 1 := (by omega)
          have nw_3 : ¬ w.heap.size = w3.heap.size := (by omega)
          have lwp1_3 : w.heap.size + 1 < w3.heap.size := (by omega)
          have mwp1_3 : w.heap.size + 1 < w3.heap.size + 1 := (by omega)
          have nwp1_3 : ¬ w.heap.size + 1 = w3.heap.size := (by omega)
          have ly_3 : w.heap.size + 1 + 1 < w3.heap.size := (by omega)
          have ny_3 : ¬ w.heap.size + 1 + 1 = w3.heap.size := (by omega)
          have rc30 : w3.cell? ⟨w.heap.size + 1 + 1, 0, none⟩ = some (.int .i64 0) := by go_simp
          have rc31 : w3.cell? ⟨w.heap.size + 1 + 1, 1, none⟩ = some (.int .i64 0) := by go_simp
          have rf30 : w3.frozen? ⟨w.heap.size + 1 + 1, 0, none⟩ = false := by go_simp
          have rf31 : w3.frozen? ⟨w.heap.size + 1 + 1, 1, none⟩ = false := by go_simp
          go_wp2
          refine bodyPost_ret (v := .tuple #[.agg #[.int .i64 (RM.mulS a b (-d) (-c)).1, .int .i64 (RM.mulS a b (-d) (-c)).2.1], .int .i64 (RM.mulS a b (-d) (-c)).2.2]) (by simp [results, Tryd.results47, go_sem, *]) rfl ⟨by rw [HE.out], ?_⟩
          (repeat' (first | (with_reducible exact Below.refl _ _) | (with_reducible refine Below.alloc ?_ ?_ _) | (with_reducible refine below_drewN' ?_ _) | (with_reducible refine Below.drew ?_) | (with_reducible refine Below.setCell ?_ ?_ _) | (with_reducible refine Below.trans ?_ (Below.mono (by with_reducible assumption) ?_)) | go_size))
        · have HE := Lib.hid (RM.divS_pos k1 k2 (by omega))
          have dn : decide (c < 0) = false := by simpa using hn
          go_enter Tryd.func47, Tryd.ntmps47
          go_wp2_with fail
          refine (valid_c a b ha hb _).mono ?_
          rintro e w1 ⟨rfl, hb1⟩
          have hc1 := old_cell hb1
          have hf1 := old_frozen hb1
          have hs1 := hb1.size
          (try simp only [World.size_alloc, World.size_setCell, World.size_drew, size_drewN] at hs1)
          have lw_1 : w.heap.size < w1.heap.size := (by omega)
          have mw_1 : w.heap.size < w1.heap.size + 1 := (by omega)
          have nw_1 : ¬ w.heap.size = w1.heap.size := (by omega)
          have lwp1_1 : w.heap.size + 1 < w1.heap.size := (by omega)
          have mwp1_1 : w.heap.size + 1 < w1.heap.size + 1 := (by omega)
          have nwp1_1 : ¬ w.heap.size + 1 = w1.heap.size := (by omega)
          have ly_1 : w.heap.size + 1 + 1 < w1.heap.size := (by omega)
          have ny_1 : ¬ w.heap.size + 1 + 1 = w1.heap.size := (by omega)
          go_wp2_with fail
          refine (valid_c c d hc hd _).mono ?_
          rintro e w2 ⟨rfl, hb2⟩
          have hc2 := old_cell hb2
          have hf2 := old_frozen hb2
          have hs2 := hb2.size
          (try simp only [World.size_alloc, World.size_setCell, World.size_drew, size_drewN] at hs2)
          have lw_2 : w.heap.size < w2.heap.size := (by omega)
          have mw_2 : w.heap.size < w2.heap.size + 1 := (by omega)
          have nw_2 : ¬ w.heap.size = w2.heap.size := (by omega)
          have lwp1_2 : w.heap.size + 1 < w2.heap.size := (by omega)
          have mwp1_2 : w.heap.size + 1 < w2.heap.size + 1 := (by omega)
          have nwp1_2 : ¬ w.heap.size + 1 = w2.heap.size := (by omega)
          have ly_2 : w.heap.size + 1 + 1 < w2.heap.size := (by omega)
          have ny_2 : ¬ w.heap.size + 1 + 1 = w2.heap.size := (by omega)
          have rc20 : w2.cell? ⟨w.heap.size + 1 + 1, 0, none⟩ = some (.int .i64 0) := by go_simp
          have rc21 : w2.cell? ⟨w.heap.size + 1 + 1, 1, none⟩ = some (.int .i64 0) := by go_simp
          have rf20 : w2.frozen? ⟨w.heap.size + 1 + 1, 0, none⟩ = false := by go_simp
          have rf21 : w2.frozen? ⟨w.heap.size + 1 + 1, 1, none⟩ = false := by go_simp
          go_wp2_with fail
          refine (Mul_c a b d c ha hb hd hc _).mono ?_
          rintro e w3 ⟨rfl, hb3⟩
          have hc3 := old_cell hb3
          have hf3 := old_frozen hb3
          have hs3 := hb3.size
          (try simp only [World.size_alloc, World.size_setCell, World.size_drew, size_drewN] at hs3)
          have lw_3 : w.heap.size < w3.heap.size := (by omega)
          have mw_3 : w.heap.size < w3.heap.size + 1 := (by omega)
          have nw_3 : ¬ w.heap.size = w3.heap.size := (by omega)
          have lwp1_3 : w.heap.size + 1 < w3.heap.size := (by omega)
          have mwp1_3 : w.heap.size + 1 < w3.heap.size + 1 := (by omega)
          have nwp1_3 : ¬ w.heap.size + 1 = w3.heap.size := (by omega)
          have ly_3 : w.heap.size + 1 + 1 < w3.heap.size := (by omega)
          have ny_3 : ¬ w.heap.size + 1 + 1 = w3.heap.size := (by omega)
          have rc30 : w3.cell? ⟨w.heap.size + 1 + 1, 0, none⟩ = some (.int .i64 0) := by go_simp
          have rc31 : w3.cell? ⟨w.heap.size + 1 + 1, 1, none⟩ = some (.int .i64 0) := by go_simp
          have rf30 : w3.frozen? ⟨w.heap.size + 1 + 1, 0, none⟩ = false := by go_simp
          have rf31 : w3.frozen? ⟨w.heap.size + 1 + 1, 1, none⟩ = false := by go_simp
          go_wp2
          refine bodyPost_ret (v := .tuple #[.agg #[.int .i64 (RM.mulS a b d c).1, .int .i64 (RM.mulS a b d c).2.1], .int .i64 (RM.mulS a b d c).2.2]) (by simp [results, Tryd.results47, go_sem, *]) rfl ⟨by rw [HE.out], ?_⟩
          (repeat' (first | (with_reducible exact Below.refl _ _) | (with_reducible refine Below.alloc ?_ ?_ _) | (with_reducible refine below_drewN' ?_ _) | (with_reducible refine Below.drew ?_) | (with_reducible refine Below.setCell ?_ ?_ _) | (with_reducible refine Below.trans ?_ (Below.mono (by with_reducible assumption) ?_)) | go_size))
end Go.Proofs.YthcgcmmkajjhhaaDoor
