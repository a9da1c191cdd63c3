/- The law RationalField as a contract. -/
import Derived.Test.YtamcnollfjbmbaaRatField020
import Derived.Test.YtamcnollfjbmbaaRatField021
import Derived.Test.YtamcnollfjbmbaaRatField022
import Derived.Test.YtamcnollfjbmbaaRatField110
import Derived.Test.YtamcnollfjbmbaaRatField111
import Derived.Test.YtamcnollfjbmbaaRatField112
import Derived.Test.YtamcnollfjbmbaaRatField100
import Derived.Test.YtamcnollfjbmbaaRatField101
import Derived.Test.YtamcnollfjbmbaaRatField102
namespace Go.Proofs.Ytamcnollfjbmbaa
open Go.RowKit

set_option linter.unusedSimpArgs false in
set_option linter.unusedVariables false in
set_option maxRecDepth 100000 in
set_option maxHeartbeats 16000000 in
theorem lawField_c (a b c d e f : Int) (ha : -9223372036854775808 ≤ a ∧ a ≤ 9223372036854775807) (hb : -9223372036854775808 ≤ b ∧ b ≤ 9223372036854775807) (hc : -9223372036854775808 ≤ c ∧ c ≤ 9223372036854775807) (hd : -9223372036854775808 ≤ d ∧ d ≤ 9223372036854775807) (he : -9223372036854775808 ≤ e ∧ e ≤ 9223372036854775807) (hf : -9223372036854775808 ≤ f ∧ f ≤ 9223372036854775807) (w : World) :
    Calls Try.prog 9 #[.agg #[.int .i64 a, .int .i64 b], .agg #[.int .i64 c, .int .i64 d], .agg #[.int .i64 e, .int .i64 f]] w fun e w' => e = .returned (.bool true) ∧ Below w.heap.size w w' := by
  cases k1 : RM.ok a b
  · skip
    go_enter Try.func9, Try.ntmps9
    go_wp2_with fail
    refine (rvalid_c a b ha hb _).mono ?_
    rintro e' w1 ⟨rfl, hb1⟩
    have hc1 := old_cell hb1
    have hs1 := hb1.size
    (try simp only [World.size_alloc, World.size_setCell, World.size_drew, size_drewN] at hs1)
    have A0_1 : w1.cell? ⟨w.heap.size, 0, none⟩ = some (.int .i64 a) := (hc1 _ _ (by first | omega | (simp only [World.size_alloc, World.size_setCell, World.size_drew, size_drewN]; omega))).trans (by first | assumption | (go_simp; done))
    have A1_1 : w1.cell? ⟨w.heap.size, 1, none⟩ = some (.int .i64 b) := (hc1 _ _ (by first | omega | (simp only [World.size_alloc, World.size_setCell, World.size_drew, size_drewN]; omega))).trans (by first | assumption | (go_simp; done))
    have Al_1 : w.heap.size < w1.heap.size := by omega
    have An_1 : ¬ w.heap.size = w1.heap.size := by omega
    have B0_1 : w1.cell? ⟨w.heap.size + 1, 0, none⟩ = some (.int .i64 c) := (hc1 _ _ (by first | omega | (simp only [World.size_alloc, World.size_setCell, World.size_drew, size_drewN]; omega))).trans (by first | assumption | (go_simp; done))
    have B1_1 : w1.cell? ⟨w.heap.size + 1, 1, none⟩ = some (.int .i64 d) := (hc1 _ _ (by first | omega | (simp only [World.size_alloc, World.size_setCell, World.size_drew, size_drewN]; omega))).trans (by first | assumption | (go_simp; done))
    have Bl_1 : w.heap.size + 1 < w1.heap.size := by omega
    have Bn_1 : ¬ w.heap.size + 1 = w1.heap.size := by omega
    have C0_1 : w1.cell? ⟨w.heap.size + 1 + 1, 0, none⟩ = some (.int .i64 e) := (hc1 _ _ (by first | omega | (simp only [World.size_alloc, World.size_setCell, World.size_drew, size_drewN]; omega))).trans (by first | assumption | (go_simp; done))
    have C1_1 : w1.cell? ⟨w.heap.size + 1 + 1, 1, none⟩ = some (.int .i64 f) := (hc1 _ _ (by first | omega | (simp only [World.size_alloc, World.size_setCell, World.size_drew, size_drewN]; omega))).trans (by first | assumption | (go_simp; done))
    have Cl_1 : w.heap.size + 1 + 1 < w1.heap.size := by omega
    have Cn_1 : ¬ w.heap.size + 1 + 1 = w1.heap.size := by omega
    have hW1 : Below w.heap.size w w1 := by
      (repeat' (first | (with_reducible exact Below.refl _ _) | (with_reducible refine Below.alloc ?_ ?_ _) | (with_reducible refine below_drewN' ?_ _) | (with_reducible refine Below.drew ?_) | (with_reducible refine Below.setCell ?_ ?_ _) | (with_reducible refine Below.trans ?_ (Below.mono (by with_reducible assumption) ?_)) | go_size))
    clear hc1 hb1
    go_wp2_with fail
    refine (awake_c _).mono ?_
    rintro e' wz ⟨rfl, hbz⟩
    go_wp2
    go_ret
    refine ⟨rfl, ?_⟩
    (repeat' (first | (with_reducible exact Below.refl _ _) | (with_reducible refine Below.alloc ?_ ?_ _) | (with_reducible refine below_drewN' ?_ _) | (with_reducible refine Below.drew ?_) | (with_reducible refine Below.setCell ?_ ?_ _) | (with_reducible refine Below.trans ?_ (Below.mono (by with_reducible assumption) ?_)) | go_size))
  · cases k2 : RM.ok c d
    · skip
      go_enter Try.func9, Try.ntmps9
      go_wp2_with fail
      refine (rvalid_c a b ha hb _).mono ?_
      rintro e' w1 ⟨rfl, hb1⟩
      have hc1 := old_cell hb1
      have hs1 := hb1.size
      (try simp only [World.size_alloc, World.size_setCell, World.size_drew, size_drewN] at hs1)
      have A0_1 : w1.cell? ⟨w.heap.size, 0, none⟩ = some (.int .i64 a) := (hc1 _ _ (by first | omega | (simp only [World.size_alloc, World.size_setCell, World.size_drew, size_drewN]; omega))).trans (by first | assumption | (go_simp; done))
      have A1_1 : w1.cell? ⟨w.heap.size, 1, none⟩ = some (.int .i64 b) := (hc1 _ _ (by first | omega | (simp only [World.size_alloc, World.size_setCell, World.size_drew, size_drewN]; omega))).trans (by first | assumption | (go_simp; done))
      have Al_1 : w.heap.size < w1.heap.size := by omega
      have An_1 : ¬ w.heap.size = w1.heap.size := by omega
      have B0_1 : w1.cell? ⟨w.heap.size + 1, 0, none⟩ = some (.int .i64 c) := (hc1 _ _ (by first | omega | (simp only [World.size_alloc, World.size_setCell, World.size_drew, size_drewN]; omega))).trans (by first | assumption | (go_simp; done))
      have B1_1 : w1.cell? ⟨w.heap.size + 1, 1, none⟩ = some (.int .i64 d) := (hc1 _ _ (by first | omega | (simp only [World.size_alloc, World.size_setCell, World.size_drew, size_drewN]; omega))).trans (by first | assumption | (go_simp; done))
      have Bl_1 : w.heap.size + 1 < w1.heap.size := by omega
      have Bn_1 : ¬ w.heap.size + 1 = w1.heap.size := by omega
      have C0_1 : w1.cell? ⟨w.heap.size + 1 + 1, 0, none⟩ = some (.int .i64 e) := (hc1 _ _ (by first | omega | (simp only [World.size_alloc, World.size_setCell, World.size_drew, size_drewN]; omega))).trans (by first | assumption | (go_simp; done))
      have C1_1 : w1.cell? ⟨w.heap.size + 1 + 1, 1, none⟩ = some (.int .i64 f) := (hc1 _ _ (by first | omega | (simp only [World.size_alloc, World.size_setCell, World.size_drew, size_drewN]; omega))).trans (by first | assumption | (go_simp; done))
      have Cl_1 : w.heap.size + 1 + 1 < w1.heap.size := by omega
      have Cn_1 : ¬ w.heap.size + 1 + 1 = w1.heap.size := by omega
      have hW1 : Below w.heap.size w w1 := by
        (repeat' (first | (with_reducible exact Below.refl _ _) | (with_reducible refine Below.alloc ?_ ?_ _) | (with_reducible refine below_drewN' ?_ _) | (with_reducible refine Below.drew ?_) | (with_reducible refine Below.setCell ?_ ?_ _) | (with_reducible refine Below.trans ?_ (Below.mono (by with_reducible assumption) ?_)) | go_size))
      clear hc1 hb1
      go_wp2_with fail
      refine (rvalid_c c d hc hd _).mono ?_
      rintro e' w2 ⟨rfl, hb2⟩
      have hc2 := old_cell hb2
      have hs2 := hb2.size
      (try simp only [World.size_alloc, World.size_setCell, World.size_drew, size_drewN] at hs2)
      have A0_2 : w2.cell? ⟨w.heap.size, 0, none⟩ = some (.int .i64 a) := (hc2 _ _ (by first | omega | (simp only [World.size_alloc, World.size_setCell, World.size_drew, size_drewN]; omega))).trans (by first | assumption | (go_simp; done))
      have A1_2 : w2.cell? ⟨w.heap.size, 1, none⟩ = some (.int .i64 b) := (hc2 _ _ (by first | omega | (simp only [World.size_alloc, World.size_setCell, World.size_drew, size_drewN]; omega))).trans (by first | assumption | (go_simp; done))
      have Al_2 : w.heap.size < w2.heap.size := by omega
      have An_2 : ¬ w.heap.size = w2.heap.size := by omega
      have B0_2 : w2.cell? ⟨w.heap.size + 1, 0, none⟩ = some (.int .i64 c) := (hc2 _ _ (by first | omega | (simp only [World.size_alloc, World.size_setCell, World.size_drew, size_drewN]; omega))).trans (by first | assumption | (go_simp; done))
      have B1_2 : w2.cell? ⟨w.heap.size + 1, 1, none⟩ = some (.int .i64 d) := (hc2 _ _ (by first | omega | (simp only [World.size_alloc, World.size_setCell, World.size_drew, size_drewN]; omega))).trans (by first | assumption | (go_simp; done))
      have Bl_2 : w.heap.size + 1 < w2.heap.size := by omega
      have Bn_2 : ¬ w.heap.size + 1 = w2.heap.size := by omega
      have C0_2 : w2.cell? ⟨w.heap.size + 1 + 1, 0, none⟩ = some (.int .i64 e) := (hc2 _ _ (by first | omega | (simp only [World.size_alloc, World.size_setCell, World.size_drew, size_drewN]; omega))).trans (by first | assumption | (go_simp; done))
      have C1_2 : w2.cell? ⟨w.heap.size + 1 + 1, 1, none⟩ = some (.int .i64 f) := (hc2 _ _ (by first | omega | (simp only [World.size_alloc, World.size_setCell, World.size_drew, size_drewN]; omega))).trans (by first | assumption | (go_simp; done))
      have Cl_2 : w.heap.size + 1 + 1 < w2.heap.size := by omega
      have Cn_2 : ¬ w.heap.size + 1 + 1 = w2.heap.size := by omega
      have hW2 : Below w.heap.size w w2 := by
        (repeat' (first | (with_reducible exact Below.refl _ _) | (with_reducible refine Below.alloc ?_ ?_ _) | (with_reducible refine below_drewN' ?_ _) | (with_reducible refine Below.drew ?_) | (with_reducible refine Below.setCell ?_ ?_ _) | (with_reducible refine Below.trans ?_ (Below.mono (by with_reducible assumption) ?_)) | go_size))
      clear A0_1 A1_1 Al_1 An_1 B0_1 B1_1 Bl_1 Bn_1 C0_1 C1_1 Cl_1 Cn_1 hW1 hs1
      clear hc2 hb2
      go_wp2_with fail
      refine (awake_c _).mono ?_
      rintro e' wz ⟨rfl, hbz⟩
      go_wp2
      go_ret
      refine ⟨rfl, ?_⟩
      (repeat' (first | (with_reducible exact Below.refl _ _) | (with_reducible refine Below.alloc ?_ ?_ _) | (with_reducible refine below_drewN' ?_ _) | (with_reducible refine Below.drew ?_) | (with_reducible refine Below.setCell ?_ ?_ _) | (with_reducible refine Below.trans ?_ (Below.mono (by with_reducible assumption) ?_)) | go_size))
    · cases k3 : RM.ok e f
      · skip
        go_enter Try.func9, Try.ntmps9
        go_wp2_with fail
        refine (rvalid_c a b ha hb _).mono ?_
        rintro e' w1 ⟨rfl, hb1⟩
        have hc1 := old_cell hb1
        have hs1 := hb1.size
        (try simp only [World.size_alloc, World.size_setCell, World.size_drew, size_drewN] at hs1)
        have A0_1 : w1.cell? ⟨w.heap.size, 0, none⟩ = some (.int .i64 a) := (hc1 _ _ (by first | omega | (simp only [World.size_alloc, World.size_setCell, World.size_drew, size_drewN]; omega))).trans (by first | assumption | (go_simp; done))
        have A1_1 : w1.cell? ⟨w.heap.size, 1, none⟩ = some (.int .i64 b) := (hc1 _ _ (by first | omega | (simp only [World.size_alloc, World.size_setCell, World.size_drew, size_drewN]; omega))).trans (by first | assumption | (go_simp; done))
        have Al_1 : w.heap.size < w1.heap.size := by omega
        have An_1 : ¬ w.heap.size = w1.heap.size := by omega
        have B0_1 : w1.cell? ⟨w.heap.size + 1, 0, none⟩ = some (.int .i64 c) := (hc1 _ _ (by first | omega | (simp only [World.size_alloc, World.size_setCell, World.size_drew, size_drewN]; omega))).trans (by first | assumption | (go_simp; done))
        have B1_1 : w1.cell? ⟨w.heap.size + 1, 1, none⟩ = some (.int .i64 d) := (hc1 _ _ (by first | omega | (simp only [World.size_alloc, World.size_setCell, World.size_drew, size_drewN]; omega))).trans (by first | assumption | (go_simp; done))
        have Bl_1 : w.heap.size + 1 < w1.heap.size := by omega
        have Bn_1 : ¬ w.heap.size + 1 = w1.heap.size := by omega
        have C0_1 : w1.cell? ⟨w.heap.size + 1 + 1, 0, none⟩ = some (.int .i64 e) := (hc1 _ _ (by first | omega | (simp only [World.size_alloc, World.size_setCell, World.size_drew, size_drewN]; omega))).trans (by first | assumption | (go_simp; done))
        have C1_1 : w1.cell? ⟨w.heap.size + 1 + 1, 1, none⟩ = some (.int .i64 f) := (hc1 _ _ (by first | omega | (simp only [World.size_alloc, World.size_setCell, World.size_drew, size_drewN]; omega))).trans (by first | assumption | (go_simp; done))
        have Cl_1 : w.heap.size + 1 + 1 < w1.heap.size := by omega
        have Cn_1 : ¬ w.heap.size + 1 + 1 = w1.heap.size := by omega
        have hW1 : Below w.heap.size w w1 := by
          (repeat' (first | (with_reducible exact Below.refl _ _) | (with_reducible refine Below.alloc ?_ ?_ _) | (with_reducible refine below_drewN' ?_ _) | (with_reducible refine Below.drew ?_) | (with_reducible refine Below.setCell ?_ ?_ _) | (with_reducible refine Below.trans ?_ (Below.mono (by with_reducible assumption) ?_)) | go_size))
        clear hc1 hb1
        go_wp2_with fail
        refine (rvalid_c c d hc hd _).mono ?_
        rintro e' w2 ⟨rfl, hb2⟩
        have hc2 := old_cell hb2
        have hs2 := hb2.size
        (try simp only [World.size_alloc, World.size_setCell, World.size_drew, size_drewN] at hs2)
        have A0_2 : w2.cell? ⟨w.heap.size, 0, none⟩ = some (.int .i64 a) := (hc2 _ _ (by first | omega | (simp only [World.size_alloc, World.size_setCell, World.size_drew, size_drewN]; omega))).trans (by first | assumption | (go_simp; done))
        have A1_2 : w2.cell? ⟨w.heap.size, 1, none⟩ = some (.int .i64 b) := (hc2 _ _ (by first | omega | (simp only [World.size_alloc, World.size_setCell, World.size_drew, size_drewN]; omega))).trans (by first | assumption | (go_simp; done))
        have Al_2 : w.heap.size < w2.heap.size := by omega
        have An_2 : ¬ w.heap.size = w2.heap.size := by omega
        have B0_2 : w2.cell? ⟨w.heap.size + 1, 0, none⟩ = some (.int .i64 c) := (hc2 _ _ (by first | omega | (simp only [World.size_alloc, World.size_setCell, World.size_drew, size_drewN]; omega))).trans (by first | assumption | (go_simp; done))
        have B1_2 : w2.cell? ⟨w.heap.size + 1, 1, none⟩ = some (.int .i64 d) := (hc2 _ _ (by first | omega | (simp only [World.size_alloc, World.size_setCell, World.size_drew, size_drewN]; omega))).trans (by first | assumption | (go_simp; done))
        have Bl_2 : w.heap.size + 1 < w2.heap.size := by omega
        have Bn_2 : ¬ w.heap.size + 1 = w2.heap.size := by omega
        have C0_2 : w2.cell? ⟨w.heap.size + 1 + 1, 0, none⟩ = some (.int .i64 e) := (hc2 _ _ (by first | omega | (simp only [World.size_alloc, World.size_setCell, World.size_drew, size_drewN]; omega))).trans (by first | assumption | (go_simp; done))
        have C1_2 : w2.cell? ⟨w.heap.size + 1 + 1, 1, none⟩ = some (.int .i64 f) := (hc2 _ _ (by first | omega | (simp only [World.size_alloc, World.size_setCell, World.size_drew, size_drewN]; omega))).trans (by first | assumption | (go_simp; done))
        have Cl_2 : w.heap.size + 1 + 1 < w2.heap.size := by omega
        have Cn_2 : ¬ w.heap.size + 1 + 1 = w2.heap.size := by omega
        have hW2 : Below w.heap.size w w2 := by
          (repeat' (first | (with_reducible exact Below.refl _ _) | (with_reducible refine Below.alloc ?_ ?_ _) | (with_reducible refine below_drewN' ?_ _) | (with_reducible refine Below.drew ?_) | (with_reducible refine Below.setCell ?_ ?_ _) | (with_reducible refine Below.trans ?_ (Below.mono (by with_reducible assumption) ?_)) | go_size))
        clear A0_1 A1_1 Al_1 An_1 B0_1 B1_1 Bl_1 Bn_1 C0_1 C1_1 Cl_1 Cn_1 hW1 hs1
        clear hc2 hb2
        go_wp2_with fail
        refine (rvalid_c e f he hf _).mono ?_
        rintro e' w3 ⟨rfl, hb3⟩
        have hc3 := old_cell hb3
        have hs3 := hb3.size
        (try simp only [World.size_alloc, World.size_setCell, World.size_drew, size_drewN] at hs3)
        have A0_3 : w3.cell? ⟨w.heap.size, 0, none⟩ = some (.int .i64 a) := (hc3 _ _ (by first | omega | (simp only [World.size_alloc, World.size_setCell, World.size_drew, size_drewN]; omega))).trans (by first | assumption | (go_simp; done))
        have A1_3 : w3.cell? ⟨w.heap.size, 1, none⟩ = some (.int .i64 b) := (hc3 _ _ (by first | omega | (simp only [World.size_alloc, World.size_setCell, World.size_drew, size_drewN]; omega))).trans (by first | assumption | (go_simp; done))
        have Al_3 : w.heap.size < w3.heap.size := by omega
        have An_3 : ¬ w.heap.size = w3.heap.size := by omega
        have B0_3 : w3.cell? ⟨w.heap.size + 1, 0, none⟩ = some (.int .i64 c) := (hc3 _ _ (by first | omega | (simp only [World.size_alloc, World.size_setCell, World.size_drew, size_drewN]; omega))).trans (by first | assumption | (go_simp; done))
        have B1_3 : w3.cell? ⟨w.heap.size + 1, 1, none⟩ = some (.int .i64 d) := (hc3 _ _ (by first | omega | (simp only [World.size_alloc, World.size_setCell, World.size_drew, size_drewN]; omega))).trans (by first | assumption | (go_simp; done))
        have Bl_3 : w.heap.size + 1 < w3.heap.size := by omega
        have Bn_3 : ¬ w.heap.size + 1 = w3.heap.size := by omega
        have C0_3 : w3.cell? ⟨w.heap.size + 1 + 1, 0, none⟩ = some (.int .i64 e) := (hc3 _ _ (by first | omega | (simp only [World.size_alloc, World.size_setCell, World.size_drew, size_drewN]; omega))).trans (by first | assumption | (go_simp; done))
        have C1_3 : w3.cell? ⟨w.heap.size + 1 + 1, 1, none⟩ = some (.int .i64 f) := (hc3 _ _ (by first | omega | (simp only [World.size_alloc, World.size_setCell, World.size_drew, size_drewN]; omega))).trans (by first | assumption | (go_simp; done))
        have Cl_3 : w.heap.size + 1 + 1 < w3.heap.size := by omega
        have Cn_3 : ¬ w.heap.size + 1 + 1 = w3.heap.size := by omega
        have hW3 : Below w.heap.size w w3 := by
          (repeat' (first | (with_reducible exact Below.refl _ _) | (with_reducible refine Below.alloc ?_ ?_ _) | (with_reducible refine below_drewN' ?_ _) | (with_reducible refine Below.drew ?_) | (with_reducible refine Below.setCell ?_ ?_ _) | (with_reducible refine Below.trans ?_ (Below.mono (by with_reducible assumption) ?_)) | go_size))
        clear A0_2 A1_2 Al_2 An_2 B0_2 B1_2 Bl_2 Bn_2 C0_2 C1_2 Cl_2 Cn_2 hW2 hs2
        clear hc3 hb3
        go_wp2_with fail
        refine (awake_c _).mono ?_
        rintro e' wz ⟨rfl, hbz⟩
        go_wp2
        go_ret
        refine ⟨rfl, ?_⟩
        (repeat' (first | (with_reducible exact Below.refl _ _) | (with_reducible refine Below.alloc ?_ ?_ _) | (with_reducible refine below_drewN' ?_ _) | (with_reducible refine Below.drew ?_) | (with_reducible refine Below.setCell ?_ ?_ _) | (with_reducible refine Below.trans ?_ (Below.mono (by with_reducible assumption) ?_)) | go_size))
      · by_cases e0 : (RM.addS a b c d).2.2 = 0
        · by_cases g0 : (RM.addS c d e f).2.2 = 0
          · skip
            by_cases p0 : (RM.mulS a b c d).2.2 = 0
            · by_cases c0 : c = 0
              · exact lawField_111 a b c d e f ha hb hc hd he hf w k1 k2 k3 e0 g0 p0 (by simpa using c0)
              · exact lawField_112 a b c d e f ha hb hc hd he hf w k1 k2 k3 e0 g0 p0 (by simpa using c0) c0
            · exact lawField_110 a b c d e f ha hb hc hd he hf w k1 k2 k3 e0 g0 (by simpa using p0)
          · have g1 : ((RM.addS c d e f).2.2 == 0) = false := by simpa using g0
            by_cases p0 : (RM.mulS a b c d).2.2 = 0
            · by_cases c0 : c = 0
              · exact lawField_101 a b c d e f ha hb hc hd he hf w k1 k2 k3 e0 g1 p0 (by simpa using c0)
              · exact lawField_102 a b c d e f ha hb hc hd he hf w k1 k2 k3 e0 g1 p0 (by simpa using c0) c0
            · exact lawField_100 a b c d e f ha hb hc hd he hf w k1 k2 k3 e0 g1 (by simpa using p0)
        · have e1 : ((RM.addS a b c d).2.2 == 0) = false := by simpa using e0
          by_cases p0 : (RM.mulS a b c d).2.2 = 0
          · by_cases c0 : c = 0
            · exact lawField_021 a b c d e f ha hb hc hd he hf w k1 k2 k3 e1 p0 (by simpa using c0)
            · exact lawField_022 a b c d e f ha hb hc hd he hf w k1 k2 k3 e1 p0 (by simpa using c0) c0
          · exact lawField_020 a b c d e f ha hb hc hd he hf w k1 k2 k3 e1 (by simpa using p0)
end Go.Proofs.Ytamcnollfjbmbaa
