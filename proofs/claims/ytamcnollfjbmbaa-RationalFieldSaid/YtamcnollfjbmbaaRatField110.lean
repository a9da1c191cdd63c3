/- The law RationalField: a case of its contract. -/
import Derived.Test.YtamcnollfjbmbaaRatFieldM
import Derived.Test.YtamcnollfjbmbaaRatSub
import Derived.Test.YtamcnollfjbmbaaRatDiv
namespace Go.Proofs.Ytamcnollfjbmbaa
open Go.RowKit

set_option linter.unusedSimpArgs false in
set_option linter.unusedVariables false in
set_option maxRecDepth 100000 in
set_option maxHeartbeats 16000000 in
theorem lawField_110 (a b c d e f : Int) (ha : -9223372036854775808 ≤ a ∧ a ≤ 9223372036854775807) (hb : -9223372036854775808 ≤ b ∧ b ≤ 9223372036854775807) (hc : -9223372036854775808 ≤ c ∧ c ≤ 9223372036854775807) (hd : -9223372036854775808 ≤ d ∧ d ≤ 9223372036854775807) (he : -9223372036854775808 ≤ e ∧ e ≤ 9223372036854775807) (hf : -9223372036854775808 ≤ f ∧ f ≤ 9223372036854775807) (w : World) (k1 : RM.ok a b = true) (k2 : RM.ok c d = true) (k3 : RM.ok e f = true) (e0 : (RM.addS a b c d).2.2 = 0) (g0 : (RM.addS c d e f).2.2 = 0) (p1 : ((RM.mulS a b c d).2.2 == 0) = false) :
    Calls Try.prog 9 #[.agg #[.int .i64 a, .int .i64 b], .agg #[.int .i64 c, .int .i64 d], .agg #[.int .i64 e, .int .i64 f]] w fun e w' => e = .returned (.bool true) ∧ Below w.heap.size w w' := by
  have bAB := RM.add_bd a b c d
  have bBC := RM.add_bd c d e f
  have bP := RM.mul_bd a b c d
  have bR := RM.mul_bd a b e f
  have bS := RM.mul_bd c d e f
  have cA := RM.add_comm' a b c d
  have cM := RM.mul_comm' a b c d
  have rJ := RM.sub_back e0 ha.2 hb.2
  have rU := fun h2 h3 => RM.distrib (e := e) (f := f) e0 h2 h3
  have rX := RM.add_assoc' e0 g0
  go_enter Try.func9, Try.ntmps9
  go_wp2_with fail
  refine (rvalid_c a b ha hb _).mono ?_
  rintro e' w1 ⟨rfl, hb1⟩
  have hc1 := old_cell hb1
  have hs1 := hb1.size
  (try simp only [World.size_alloc, World.size_setCell, World.size_drew, size_drewN] at hs1)
  have A0_1 : w1.cell? ⟨w.heap.size, 0, none⟩ = some (.int .i64 a) := (hc1 _ _ (by first | omega | (simp only [World.size_alloc, World.size_setCell, World.size_drew, size_drewN]; omega))).trans (by first | assumption | (go_simp; done))
  have A1_1 : w1.cell? ⟨w.heap.size, 1, none⟩ = some (.int .i64 b) := (hc1 _ _ (by first | omega | (simp only [World.size_alloc, World.size_setCell, World.size_drew, size_drewN]; omega))).trans (by first | assumption | (go_simp; done))
  have Al_1 : w.heap.size < w1.heap.size := by omega
  have An_1 : ¬ w.heap.size = w1.heap.size := by omega
  have B0_1 : w1.cell? ⟨w.heap.size + 1, 0, none⟩ = some (.int .i64 c) := (hc1 _ _ (by first | omega | (simp only [World.size_alloc, World.size_setCell, World.size_drew, size_drewN]; omega))).trans (by first | assumption | (go_simp; done))
  have B1_1 : w1.cell? ⟨w.heap.size + 1, 1, none⟩ = some (.int .i64 d) := (hc1 _ _ (by first | omega | (simp only [World.size_alloc, World.size_setCell, World.size_drew, size_drewN]; omega))).trans (by first | assumption | (go_simp; done))
  have Bl_1 : w.heap.size + 1 < w1.heap.size := by omega
  have Bn_1 : ¬ w.heap.size + 1 = w1.heap.size := by omega
  have C0_1 : w1.cell? ⟨w.heap.size + 1 + 1, 0, none⟩ = some (.int .i64 e) := (hc1 _ _ (by first | omega | (simp only [World.size_alloc, World.size_setCell, World.size_drew, size_drewN]; omega))).trans (by first | assumption | (go_simp; done))
  have C1_1 : w1.cell? ⟨w.heap.size + 1 + 1, 1, none⟩ = some (.int .i64 f) := (hc1 _ _ (by first | omega | (simp only [World.size_alloc, World.size_setCell, World.size_drew, size_drewN]; omega))).trans (by first | assumption | (go_simp; done))
  have Cl_1 : w.heap.size + 1 + 1 < w1.heap.size := by omega
  have Cn_1 : ¬ w.heap.size + 1 + 1 = w1.heap.size := by omega
  have hW1 : Below w.heap.size w w1 := by
    (repeat' (first | (with_reducible exact Below.refl _ _) | (with_reducible refine Below.alloc ?_ ?_ _) | (with_reducible refine below_drewN' ?_ _) | (with_reducible refine Below.drew ?_) | (with_reducible refine Below.setCell ?_ ?_ _) | (with_reducible refine Below.trans ?_ (Below.mono (by with_reducible assumption) ?_)) | go_size))
  clear hc1 hb1
  go_wp2_with fail
  refine (rvalid_c c d hc hd _).mono ?_
  rintro e' w2 ⟨rfl, hb2⟩
  have hc2 := old_cell hb2
  have hs2 := hb2.size
  (try simp only [World.size_alloc, World.size_setCell, World.size_drew, size_drewN] at hs2)
  have A0_2 : w2.cell? ⟨w.heap.size, 0, none⟩ = some (.int .i64 a) := (hc2 _ _ (by first | omega | (simp only [World.size_alloc, World.size_setCell, World.size_drew, size_drewN]; omega))).trans (by first | assumption | (go_simp; done))
  have A1_2 : w2.cell? ⟨w.heap.size, 1, none⟩ = some (.int .i64 b) := (hc2 _ _ (by first | omega | (simp only [World.size_alloc, World.size_setCell, World.size_drew, size_drewN]; omega))).trans (by first | assumption | (go_simp; done))
  have Al_2 : w.heap.size < w2.heap.size := by omega
  have An_2 : ¬ w.heap.size = w2.heap.size := by omega
  have B0_2 : w2.cell? ⟨w.heap.size + 1, 0, none⟩ = some (.int .i64 c) := (hc2 _ _ (by first | omega | (simp only [World.size_alloc, World.size_setCell, World.size_drew, size_drewN]; omega))).trans (by first | assumption | (go_simp; done))
  have B1_2 : w2.cell? ⟨w.heap.size + 1, 1, none⟩ = some (.int .i64 d) := (hc2 _ _ (by first | omega | (simp only [World.size_alloc, World.size_setCell, World.size_drew, size_drewN]; omega))).trans (by first | assumption | (go_simp; done))
  have Bl_2 : w.heap.size + 1 < w2.heap.size := by omega
  have Bn_2 : ¬ w.heap.size + 1 = w2.heap.size := by omega
  have C0_2 : w2.cell? ⟨w.heap.size + 1 + 1, 0, none⟩ = some (.int .i64 e) := (hc2 _ _ (by first | omega | (simp only [World.size_alloc, World.size_setCell, World.size_drew, size_drewN]; omega))).trans (by first | assumption | (go_simp; done))
  have C1_2 : w2.cell? ⟨w.heap.size + 1 + 1, 1, none⟩ = some (.int .i64 f) := (hc2 _ _ (by first | omega | (simp only [World.size_alloc, World.size_setCell, World.size_drew, size_drewN]; omega))).trans (by first | assumption | (go_simp; done))
  have Cl_2 : w.heap.size + 1 + 1 < w2.heap.size := by omega
  have Cn_2 : ¬ w.heap.size + 1 + 1 = w2.heap.size := by omega
  have hW2 : Below w.heap.size w w2 := by
    (repeat' (first | (with_reducible exact Below.refl _ _) | (with_reducible refine Below.alloc ?_ ?_ _) | (with_reducible refine below_drewN' ?_ _) | (with_reducible refine Below.drew ?_) | (with_reducible refine Below.setCell ?_ ?_ _) | (with_reducible refine Below.trans ?_ (Below.mono (by with_reducible assumption) ?_)) | go_size))
  clear A0_1 A1_1 Al_1 An_1 B0_1 B1_1 Bl_1 Bn_1 C0_1 C1_1 Cl_1 Cn_1 hW1 hs1
  clear hc2 hb2
  go_wp2_with fail
  refine (rvalid_c e f he hf _).mono ?_
  rintro e' w3 ⟨rfl, hb3⟩
  have hc3 := old_cell hb3
  have hs3 := hb3.size
  (try simp only [World.size_alloc, World.size_setCell, World.size_drew, size_drewN] at hs3)
  have A0_3 : w3.cell? ⟨w.heap.size, 0, none⟩ = some (.int .i64 a) := (hc3 _ _ (by first | omega | (simp only [World.size_alloc, World.size_setCell, World.size_drew, size_drewN]; omega))).trans (by first | assumption | (go_simp; done))
  have A1_3 : w3.cell? ⟨w.heap.size, 1, none⟩ = some (.int .i64 b) := (hc3 _ _ (by first | omega | (simp only [World.size_alloc, World.size_setCell, World.size_drew, size_drewN]; omega))).trans (by first | assumption | (go_simp; done))
  have Al_3 : w.heap.size < w3.heap.size := by omega
  have An_3 : ¬ w.heap.size = w3.heap.size := by omega
  have B0_3 : w3.cell? ⟨w.heap.size + 1, 0, none⟩ = some (.int .i64 c) := (hc3 _ _ (by first | omega | (simp only [World.size_alloc, World.size_setCell, World.size_drew, size_drewN]; omega))).trans (by first | assumption | (go_simp; done))
  have B1_3 : w3.cell? ⟨w.heap.size + 1, 1, none⟩ = some (.int .i64 d) := (hc3 _ _ (by first | omega | (simp only [World.size_alloc, World.size_setCell, World.size_drew, size_drewN]; omega))).trans (by first | assumption | (go_simp; done))
  have Bl_3 : w.heap.size + 1 < w3.heap.size := by omega
  have Bn_3 : ¬ w.heap.size + 1 = w3.heap.size := by omega
  have C0_3 : w3.cell? ⟨w.heap.size + 1 + 1, 0, none⟩ = some (.int .i64 e) := (hc3 _ _ (by first | omega | (simp only [World.size_alloc, World.size_setCell, World.size_drew, size_drewN]; omega))).trans (by first | assumption | (go_simp; done))
  have C1_3 : w3.cell? ⟨w.heap.size + 1 + 1, 1, none⟩ = some (.int .i64 f) := (hc3 _ _ (by first | omega | (simp only [World.size_alloc, World.size_setCell, World.size_drew, size_drewN]; omega))).trans (by first | assumption | (go_simp; done))
  have Cl_3 : w.heap.size + 1 + 1 < w3.heap.size := by omega
  have Cn_3 : ¬ w.heap.size + 1 + 1 = w3.heap.size := by omega
  have hW3 : Below w.heap.size w w3 := by
    (repeat' (first | (with_reducible exact Below.refl _ _) | (with_reducible refine Below.alloc ?_ ?_ _) | (with_reducible refine below_drewN' ?_ _) | (with_reducible refine Below.drew ?_) | (with_reducible refine Below.setCell ?_ ?_ _) | (with_reducible refine Below.trans ?_ (Below.mono (by with_reducible assumption) ?_)) | go_size))
  clear A0_2 A1_2 Al_2 An_2 B0_2 B1_2 Bl_2 Bn_2 C0_2 C1_2 Cl_2 Cn_2 hW2 hs2
  clear hc3 hb3
  go_wp2_with fail
  refine (Add_c a b c d ha hb hc hd _).mono ?_
  rintro e' w4 ⟨rfl, hb4⟩
  have hc4 := old_cell hb4
  have hs4 := hb4.size
  (try simp only [World.size_alloc, World.size_setCell, World.size_drew, size_drewN] at hs4)
  have A0_4 : w4.cell? ⟨w.heap.size, 0, none⟩ = some (.int .i64 a) := (hc4 _ _ (by first | omega | (simp only [World.size_alloc, World.size_setCell, World.size_drew, size_drewN]; omega))).trans (by first | assumption | (go_simp; done))
  have A1_4 : w4.cell? ⟨w.heap.size, 1, none⟩ = some (.int .i64 b) := (hc4 _ _ (by first | omega | (simp only [World.size_alloc, World.size_setCell, World.size_drew, size_drewN]; omega))).trans (by first | assumption | (go_simp; done))
  have Al_4 : w.heap.size < w4.heap.size := by omega
  have An_4 : ¬ w.heap.size = w4.heap.size := by omega
  have B0_4 : w4.cell? ⟨w.heap.size + 1, 0, none⟩ = some (.int .i64 c) := (hc4 _ _ (by first | omega | (simp only [World.size_alloc, World.size_setCell, World.size_drew, size_drewN]; omega))).trans (by first | assumption | (go_simp; done))
  have B1_4 : w4.cell? ⟨w.heap.size + 1, 1, none⟩ = some (.int .i64 d) := (hc4 _ _ (by first | omega | (simp only [World.size_alloc, World.size_setCell, World.size_drew, size_drewN]; omega))).trans (by first | assumption | (go_simp; done))
  have Bl_4 : w.heap.size + 1 < w4.heap.size := by omega
  have Bn_4 : ¬ w.heap.size + 1 = w4.heap.size := by omega
  have C0_4 : w4.cell? ⟨w.heap.size + 1 + 1, 0, none⟩ = some (.int .i64 e) := (hc4 _ _ (by first | omega | (simp only [World.size_alloc, World.size_setCell, World.size_drew, size_drewN]; omega))).trans (by first | assumption | (go_simp; done))
  have C1_4 : w4.cell? ⟨w.heap.size + 1 + 1, 1, none⟩ = some (.int .i64 f) := (hc4 _ _ (by first | omega | (simp only [World.size_alloc, World.size_setCell, World.size_drew, size_drewN]; omega))).trans (by first | assumption | (go_simp; done))
  have Cl_4 : w.heap.size + 1 + 1 < w4.heap.size := by omega
  have Cn_4 : ¬ w.heap.size + 1 + 1 = w4.heap.size := by omega
  have hW4 : Below w.heap.size w w4 := by
    (repeat' (first | (with_reducible exact Below.refl _ _) | (with_reducible refine Below.alloc ?_ ?_ _) | (with_reducible refine below_drewN' ?_ _) | (with_reducible refine Below.drew ?_) | (with_reducible refine Below.setCell ?_ ?_ _) | (with_reducible refine Below.trans ?_ (Below.mono (by with_reducible assumption) ?_)) | go_size))
  clear A0_3 A1_3 Al_3 An_3 B0_3 B1_3 Bl_3 Bn_3 C0_3 C1_3 Cl_3 Cn_3 hW3 hs3
  clear hc4 hb4
  go_wp2_with fail
  refine (Add_c c d a b hc hd ha hb _).mono ?_
  rintro e' w5 ⟨rfl, hb5⟩
  have hc5 := old_cell hb5
  have hs5 := hb5.size
  (try simp only [World.size_alloc, World.size_setCell, World.size_drew, size_drewN] at hs5)
  have A0_5 : w5.cell? ⟨w.heap.size, 0, none⟩ = some (.int .i64 a) := (hc5 _ _ (by first | omega | (simp only [World.size_alloc, World.size_setCell, World.size_drew, size_drewN]; omega))).trans (by first | assumption | (go_simp; done))
  have A1_5 : w5.cell? ⟨w.heap.size, 1, none⟩ = some (.int .i64 b) := (hc5 _ _ (by first | omega | (simp only [World.size_alloc, World.size_setCell, World.size_drew, size_drewN]; omega))).trans (by first | assumption | (go_simp; done))
  have Al_5 : w.heap.size < w5.heap.size := by omega
  have An_5 : ¬ w.heap.size = w5.heap.size := by omega
  have B0_5 : w5.cell? ⟨w.heap.size + 1, 0, none⟩ = some (.int .i64 c) := (hc5 _ _ (by first | omega | (simp only [World.size_alloc, World.size_setCell, World.size_drew, size_drewN]; omega))).trans (by first | assumption | (go_simp; done))
  have B1_5 : w5.cell? ⟨w.heap.size + 1, 1, none⟩ = some (.int .i64 d) := (hc5 _ _ (by first | omega | (simp only [World.size_alloc, World.size_setCell, World.size_drew, size_drewN]; omega))).trans (by first | assumption | (go_simp; done))
  have Bl_5 : w.heap.size + 1 < w5.heap.size := by omega
  have Bn_5 : ¬ w.heap.size + 1 = w5.heap.size := by omega
  have C0_5 : w5.cell? ⟨w.heap.size + 1 + 1, 0, none⟩ = some (.int .i64 e) := (hc5 _ _ (by first | omega | (simp only [World.size_alloc, World.size_setCell, World.size_drew, size_drewN]; omega))).trans (by first | assumption | (go_simp; done))
  have C1_5 : w5.cell? ⟨w.heap.size + 1 + 1, 1, none⟩ = some (.int .i64 f) := (hc5 _ _ (by first | omega | (simp only [World.size_alloc, World.size_setCell, World.size_drew, size_drewN]; omega))).trans (by first | assumption | (go_simp; done))
  have Cl_5 : w.heap.size + 1 + 1 < w5.heap.size := by omega
  have Cn_5 : ¬ w.heap.size + 1 + 1 = w5.heap.size := by omega
  have D0_5 : w5.cell? ⟨w4.heap.size, 0, none⟩ = some (.int .i64 (RM.addS a b c d).1) := (hc5 _ _ (by first | omega | (simp only [World.size_alloc, World.size_setCell, World.size_drew, size_drewN]; omega))).trans (by first | assumption | (go_simp; done))
  have D1_5 : w5.cell? ⟨w4.heap.size, 1, none⟩ = some (.int .i64 (RM.addS a b c d).2.1) := (hc5 _ _ (by first | omega | (simp only [World.size_alloc, World.size_setCell, World.size_drew, size_drewN]; omega))).trans (by first | assumption | (go_simp; done))
  have Dl_5 : w4.heap.size < w5.heap.size := by omega
  have Dn_5 : ¬ w4.heap.size = w5.heap.size := by omega
  have hW5 : Below w.heap.size w w5 := by
    (repeat' (first | (with_reducible exact Below.refl _ _) | (with_reducible refine Below.alloc ?_ ?_ _) | (with_reducible refine below_drewN' ?_ _) | (with_reducible refine Below.drew ?_) | (with_reducible refine Below.setCell ?_ ?_ _) | (with_reducible refine Below.trans ?_ (Below.mono (by with_reducible assumption) ?_)) | go_size))
  clear A0_4 A1_4 Al_4 An_4 B0_4 B1_4 Bl_4 Bn_4 C0_4 C1_4 Cl_4 Cn_4 hW4 hs4
  clear hc5 hb5
  go_wp2_with fail
  refine (Add_c c d e f hc hd he hf _).mono ?_
  rintro e' w6 ⟨rfl, hb6⟩
  have hc6 := old_cell hb6
  have hs6 := hb6.size
  (try simp only [World.size_alloc, World.size_setCell, World.size_drew, size_drewN] at hs6)
  have A0_6 : w6.cell? ⟨w.heap.size, 0, none⟩ = some (.int .i64 a) := (hc6 _ _ (by first | omega | (simp only [World.size_alloc, World.size_setCell, World.size_drew, size_drewN]; omega))).trans (by first | assumption | (go_simp; done))
  have A1_6 : w6.cell? ⟨w.heap.size, 1, none⟩ = some (.int .i64 b) := (hc6 _ _ (by first | omega | (simp only [World.size_alloc, World.size_setCell, World.size_drew, size_drewN]; omega))).trans (by first | assumption | (go_simp; done))
  have Al_6 : w.heap.size < w6.heap.size := by omega
  have An_6 : ¬ w.heap.size = w6.heap.size := by omega
  have B0_6 : w6.cell? ⟨w.heap.size + 1, 0, none⟩ = some (.int .i64 c) := (hc6 _ _ (by first | omega | (simp only [World.size_alloc, World.size_setCell, World.size_drew, size_drewN]; omega))).trans (by first | assumption | (go_simp; done))
  have B1_6 : w6.cell? ⟨w.heap.size + 1, 1, none⟩ = some (.int .i64 d) := (hc6 _ _ (by first | omega | (simp only [World.size_alloc, World.size_setCell, World.size_drew, size_drewN]; omega))).trans (by first | assumption | (go_simp; done))
  have Bl_6 : w.heap.size + 1 < w6.heap.size := by omega
  have Bn_6 : ¬ w.heap.size + 1 = w6.heap.size := by omega
  have C0_6 : w6.cell? ⟨w.heap.size + 1 + 1, 0, none⟩ = some (.int .i64 e) := (hc6 _ _ (by first | omega | (simp only [World.size_alloc, World.size_setCell, World.size_drew, size_drewN]; omega))).trans (by first | assumption | (go_simp; done))
  have C1_6 : w6.cell? ⟨w.heap.size + 1 + 1, 1, none⟩ = some (.int .i64 f) := (hc6 _ _ (by first | omega | (simp only [World.size_alloc, World.size_setCell, World.size_drew, size_drewN]; omega))).trans (by first | assumption | (go_simp; done))
  have Cl_6 : w.heap.size + 1 + 1 < w6.heap.size := by omega
  have Cn_6 : ¬ w.heap.size + 1 + 1 = w6.heap.size := by omega
  have D0_6 : w6.cell? ⟨w4.heap.size, 0, none⟩ = some (.int .i64 (RM.addS a b c d).1) := (hc6 _ _ (by first | omega | (simp only [World.size_alloc, World.size_setCell, World.size_drew, size_drewN]; omega))).trans (by first | assumption | (go_simp; done))
  have D1_6 : w6.cell? ⟨w4.heap.size, 1, none⟩ = some (.int .i64 (RM.addS a b c d).2.1) := (hc6 _ _ (by first | omega | (simp only [World.size_alloc, World.size_setCell, World.size_drew, size_drewN]; omega))).trans (by first | assumption | (go_simp; done))
  have Dl_6 : w4.heap.size < w6.heap.size := by omega
  have Dn_6 : ¬ w4.heap.size = w6.heap.size := by omega
  have hW6 : Below w.heap.size w w6 := by
    (repeat' (first | (with_reducible exact Below.refl _ _) | (with_reducible refine Below.alloc ?_ ?_ _) | (with_reducible refine below_drewN' ?_ _) | (with_reducible refine Below.drew ?_) | (with_reducible refine Below.setCell ?_ ?_ _) | (with_reducible refine Below.trans ?_ (Below.mono (by with_reducible assumption) ?_)) | go_size))
  clear A0_5 A1_5 Al_5 An_5 B0_5 B1_5 Bl_5 Bn_5 C0_5 C1_5 Cl_5 Cn_5 D0_5 D1_5 Dl_5 Dn_5 hW5 hs5
  clear hc6 hb6
  go_wp2_with fail
  refine (Add_c (RM.addS a b c d).1 (RM.addS a b c d).2.1 e f bAB.1 bAB.2 he hf _).mono ?_
  rintro e' w7 ⟨rfl, hb7⟩
  have hc7 := old_cell hb7
  have hs7 := hb7.size
  (try simp only [World.size_alloc, World.size_setCell, World.size_drew, size_drewN] at hs7)
  have A0_7 : w7.cell? ⟨w.heap.size, 0, none⟩ = some (.int .i64 a) := (hc7 _ _ (by first | omega | (simp only [World.size_alloc, World.size_setCell, World.size_drew, size_drewN]; omega))).trans (by first | assumption | (go_simp; done))
  have A1_7 : w7.cell? ⟨w.heap.size, 1, none⟩ = some (.int .i64 b) := (hc7 _ _ (by first | omega | (simp only [World.size_alloc, World.size_setCell, World.size_drew, size_drewN]; omega))).trans (by first | assumption | (go_simp; done))
  have Al_7 : w.heap.size < w7.heap.size := by omega
  have An_7 : ¬ w.heap.size = w7.heap.size := by omega
  have B0_7 : w7.cell? ⟨w.heap.size + 1, 0, none⟩ = some (.int .i64 c) := (hc7 _ _ (by first | omega | (simp only [World.size_alloc, World.size_setCell, World.size_drew, size_drewN]; omega))).trans (by first | assumption | (go_simp; done))
  have B1_7 : w7.cell? ⟨w.heap.size + 1, 1, none⟩ = some (.int .i64 d) := (hc7 _ _ (by first | omega | (simp only [World.size_alloc, World.size_setCell, World.size_drew, size_drewN]; omega))).trans (by first | assumption | (go_simp; done))
  have Bl_7 : w.heap.size + 1 < w7.heap.size := by omega
  have Bn_7 : ¬ w.heap.size + 1 = w7.heap.size := by omega
  have C0_7 : w7.cell? ⟨w.heap.size + 1 + 1, 0, none⟩ = some (.int .i64 e) := (hc7 _ _ (by first | omega | (simp only [World.size_alloc, World.size_setCell, World.size_drew, size_drewN]; omega))).trans (by first | assumption | (go_simp; done))
  have C1_7 : w7.cell? ⟨w.heap.size + 1 + 1, 1, none⟩ = some (.int .i64 f) := (hc7 _ _ (by first | omega | (simp only [World.size_alloc, World.size_setCell, World.size_drew, size_drewN]; omega))).trans (by first | assumption | (go_simp; done))
  have Cl_7 : w.heap.size + 1 + 1 < w7.heap.size := by omega
  have Cn_7 : ¬ w.heap.size + 1 + 1 = w7.heap.size := by omega
  have D0_7 : w7.cell? ⟨w4.heap.size, 0, none⟩ = some (.int .i64 (RM.addS a b c d).1) := (hc7 _ _ (by first | omega | (simp only [World.size_alloc, World.size_setCell, World.size_drew, size_drewN]; omega))).trans (by first | assumption | (go_simp; done))
  have D1_7 : w7.cell? ⟨w4.heap.size, 1, none⟩ = some (.int .i64 (RM.addS a b c d).2.1) := (hc7 _ _ (by first | omega | (simp only [World.size_alloc, World.size_setCell, World.size_drew, size_drewN]; omega))).trans (by first | assumption | (go_simp; done))
  have Dl_7 : w4.heap.size < w7.heap.size := by omega
  have Dn_7 : ¬ w4.heap.size = w7.heap.size := by omega
  have F0_7 : w7.cell? ⟨w6.heap.size, 0, none⟩ = some (.int .i64 (RM.addS c d e f).1) := (hc7 _ _ (by first | omega | (simp only [World.size_alloc, World.size_setCell, World.size_drew, size_drewN]; omega))).trans (by first | assumption | (go_simp; done))
  have F1_7 : w7.cell? ⟨w6.heap.size, 1, none⟩ = some (.int .i64 (RM.addS c d e f).2.1) := (hc7 _ _ (by first | omega | (simp only [World.size_alloc, World.size_setCell, World.size_drew, size_drewN]; omega))).trans (by first | assumption | (go_simp; done))
  have Fl_7 : w6.heap.size < w7.heap.size := by omega
  have Fn_7 : ¬ w6.heap.size = w7.heap.size := by omega
  have hW7 : Below w.heap.size w w7 := by
    (repeat' (first | (with_reducible exact Below.refl _ _) | (with_reducible refine Below.alloc ?_ ?_ _) | (with_reducible refine below_drewN' ?_ _) | (with_reducible refine Below.drew ?_) | (with_reducible refine Below.setCell ?_ ?_ _) | (with_reducible refine Below.trans ?_ (Below.mono (by with_reducible assumption) ?_)) | go_size))
  clear A0_6 A1_6 Al_6 An_6 B0_6 B1_6 Bl_6 Bn_6 C0_6 C1_6 Cl_6 Cn_6 D0_6 D1_6 Dl_6 Dn_6 hW6 hs6
  clear hc7 hb7
  go_wp2_with fail
  refine (Add_c a b (RM.addS c d e f).1 (RM.addS c d e f).2.1 ha hb bBC.1 bBC.2 _).mono ?_
  rintro e' w8 ⟨rfl, hb8⟩
  have hc8 := old_cell hb8
  have hs8 := hb8.size
  (try simp only [World.size_alloc, World.size_setCell, World.size_drew, size_drewN] at hs8)
  have A0_8 : w8.cell? ⟨w.heap.size, 0, none⟩ = some (.int .i64 a) := (hc8 _ _ (by first | omega | (simp only [World.size_alloc, World.size_setCell, World.size_drew, size_drewN]; omega))).trans (by first | assumption | (go_simp; done))
  have A1_8 : w8.cell? ⟨w.heap.size, 1, none⟩ = some (.int .i64 b) := (hc8 _ _ (by first | omega | (simp only [World.size_alloc, World.size_setCell, World.size_drew, size_drewN]; omega))).trans (by first | assumption | (go_simp; done))
  have Al_8 : w.heap.size < w8.heap.size := by omega
  have An_8 : ¬ w.heap.size = w8.heap.size := by omega
  have B0_8 : w8.cell? ⟨w.heap.size + 1, 0, none⟩ = some (.int .i64 c) := (hc8 _ _ (by first | omega | (simp only [World.size_alloc, World.size_setCell, World.size_drew, size_drewN]; omega))).trans (by first | assumption | (go_simp; done))
  have B1_8 : w8.cell? ⟨w.heap.size + 1, 1, none⟩ = some (.int .i64 d) := (hc8 _ _ (by first | omega | (simp only [World.size_alloc, World.size_setCell, World.size_drew, size_drewN]; omega))).trans (by first | assumption | (go_simp; done))
  have Bl_8 : w.heap.size + 1 < w8.heap.size := by omega
  have Bn_8 : ¬ w.heap.size + 1 = w8.heap.size := by omega
  have C0_8 : w8.cell? ⟨w.heap.size + 1 + 1, 0, none⟩ = some (.int .i64 e) := (hc8 _ _ (by first | omega | (simp only [World.size_alloc, World.size_setCell, World.size_drew, size_drewN]; omega))).trans (by first | assumption | (go_simp; done))
  have C1_8 : w8.cell? ⟨w.heap.size + 1 + 1, 1, none⟩ = some (.int .i64 f) := (hc8 _ _ (by first | omega | (simp only [World.size_alloc, World.size_setCell, World.size_drew, size_drewN]; omega))).trans (by first | assumption | (go_simp; done))
  have Cl_8 : w.heap.size + 1 + 1 < w8.heap.size := by omega
  have Cn_8 : ¬ w.heap.size + 1 + 1 = w8.heap.size := by omega
  have D0_8 : w8.cell? ⟨w4.heap.size, 0, none⟩ = some (.int .i64 (RM.addS a b c d).1) := (hc8 _ _ (by first | omega | (simp only [World.size_alloc, World.size_setCell, World.size_drew, size_drewN]; omega))).trans (by first | assumption | (go_simp; done))
  have D1_8 : w8.cell? ⟨w4.heap.size, 1, none⟩ = some (.int .i64 (RM.addS a b c d).2.1) := (hc8 _ _ (by first | omega | (simp only [World.size_alloc, World.size_setCell, World.size_drew, size_drewN]; omega))).trans (by first | assumption | (go_simp; done))
  have Dl_8 : w4.heap.size < w8.heap.size := by omega
  have Dn_8 : ¬ w4.heap.size = w8.heap.size := by omega
  have G0_8 : w8.cell? ⟨w7.heap.size, 0, none⟩ = some (.int .i64 (RM.addS a b (RM.addS c d e f).1 (RM.addS c d e f).2.1).1) := (hc8 _ _ (by first | omega | (simp only [World.size_alloc, World.size_setCell, World.size_drew, size_drewN]; omega))).trans (by first | assumption | (go_simp; done))
  have G1_8 : w8.cell? ⟨w7.heap.size, 1, none⟩ = some (.int .i64 (RM.addS a b (RM.addS c d e f).1 (RM.addS c d e f).2.1).2.1) := (hc8 _ _ (by first | omega | (simp only [World.size_alloc, World.size_setCell, World.size_drew, size_drewN]; omega))).trans (by first | assumption | (go_simp; done))
  have Gl_8 : w7.heap.size < w8.heap.size := by omega
  have Gn_8 : ¬ w7.heap.size = w8.heap.size := by omega
  have hW8 : Below w.heap.size w w8 := by
    (repeat' (first | (with_reducible exact Below.refl _ _) | (with_reducible refine Below.alloc ?_ ?_ _) | (with_reducible refine below_drewN' ?_ _) | (with_reducible refine Below.drew ?_) | (with_reducible refine Below.setCell ?_ ?_ _) | (with_reducible refine Below.trans ?_ (Below.mono (by with_reducible assumption) ?_)) | go_size))
  clear A0_7 A1_7 Al_7 An_7 B0_7 B1_7 Bl_7 Bn_7 C0_7 C1_7 Cl_7 Cn_7 D0_7 D1_7 Dl_7 Dn_7 F0_7 F1_7 Fl_7 Fn_7 hW7 hs7
  clear hc8 hb8
  go_wp2_with fail
  refine (Sub_c (RM.addS a b c d).1 (RM.addS a b c d).2.1 c d bAB.1 bAB.2 hc hd _).mono ?_
  rintro e' w9 ⟨rfl, hb9⟩
  have hc9 := old_cell hb9
  have hs9 := hb9.size
  (try simp only [World.size_alloc, World.size_setCell, World.size_drew, size_drewN] at hs9)
  have A0_9 : w9.cell? ⟨w.heap.size, 0, none⟩ = some (.int .i64 a) := (hc9 _ _ (by first | omega | (simp only [World.size_alloc, World.size_setCell, World.size_drew, size_drewN]; omega))).trans (by first | assumption | (go_simp; done))
  have A1_9 : w9.cell? ⟨w.heap.size, 1, none⟩ = some (.int .i64 b) := (hc9 _ _ (by first | omega | (simp only [World.size_alloc, World.size_setCell, World.size_drew, size_drewN]; omega))).trans (by first | assumption | (go_simp; done))
  have Al_9 : w.heap.size < w9.heap.size := by omega
  have An_9 : ¬ w.heap.size = w9.heap.size := by omega
  have B0_9 : w9.cell? ⟨w.heap.size + 1, 0, none⟩ = some (.int .i64 c) := (hc9 _ _ (by first | omega | (simp only [World.size_alloc, World.size_setCell, World.size_drew, size_drewN]; omega))).trans (by first | assumption | (go_simp; done))
  have B1_9 : w9.cell? ⟨w.heap.size + 1, 1, none⟩ = some (.int .i64 d) := (hc9 _ _ (by first | omega | (simp only [World.size_alloc, World.size_setCell, World.size_drew, size_drewN]; omega))).trans (by first | assumption | (go_simp; done))
  have Bl_9 : w.heap.size + 1 < w9.heap.size := by omega
  have Bn_9 : ¬ w.heap.size + 1 = w9.heap.size := by omega
  have C0_9 : w9.cell? ⟨w.heap.size + 1 + 1, 0, none⟩ = some (.int .i64 e) := (hc9 _ _ (by first | omega | (simp only [World.size_alloc, World.size_setCell, World.size_drew, size_drewN]; omega))).trans (by first | assumption | (go_simp; done))
  have C1_9 : w9.cell? ⟨w.heap.size + 1 + 1, 1, none⟩ = some (.int .i64 f) := (hc9 _ _ (by first | omega | (simp only [World.size_alloc, World.size_setCell, World.size_drew, size_drewN]; omega))).trans (by first | assumption | (go_simp; done))
  have Cl_9 : w.heap.size + 1 + 1 < w9.heap.size := by omega
  have Cn_9 : ¬ w.heap.size + 1 + 1 = w9.heap.size := by omega
  have D0_9 : w9.cell? ⟨w4.heap.size, 0, none⟩ = some (.int .i64 (RM.addS a b c d).1) := (hc9 _ _ (by first | omega | (simp only [World.size_alloc, World.size_setCell, World.size_drew, size_drewN]; omega))).trans (by first | assumption | (go_simp; done))
  have D1_9 : w9.cell? ⟨w4.heap.size, 1, none⟩ = some (.int .i64 (RM.addS a b c d).2.1) := (hc9 _ _ (by first | omega | (simp only [World.size_alloc, World.size_setCell, World.size_drew, size_drewN]; omega))).trans (by first | assumption | (go_simp; done))
  have Dl_9 : w4.heap.size < w9.heap.size := by omega
  have Dn_9 : ¬ w4.heap.size = w9.heap.size := by omega
  have hW9 : Below w.heap.size w w9 := by
    (repeat' (first | (with_reducible exact Below.refl _ _) | (with_reducible refine Below.alloc ?_ ?_ _) | (with_reducible refine below_drewN' ?_ _) | (with_reducible refine Below.drew ?_) | (with_reducible refine Below.setCell ?_ ?_ _) | (with_reducible refine Below.trans ?_ (Below.mono (by with_reducible assumption) ?_)) | go_size))
  clear A0_8 A1_8 Al_8 An_8 B0_8 B1_8 Bl_8 Bn_8 C0_8 C1_8 Cl_8 Cn_8 D0_8 D1_8 Dl_8 Dn_8 G0_8 G1_8 Gl_8 Gn_8 hW8 hs8
  clear hc9 hb9
  go_wp2_with fail
  refine (Mul_c a b c d ha hb hc hd _).mono ?_
  rintro e' w10 ⟨rfl, hb10⟩
  have hc10 := old_cell hb10
  have hs10 := hb10.size
  (try simp only [World.size_alloc, World.size_setCell, World.size_drew, size_drewN] at hs10)
  have A0_10 : w10.cell? ⟨w.heap.size, 0, none⟩ = some (.int .i64 a) := (hc10 _ _ (by first | omega | (simp only [World.size_alloc, World.size_setCell, World.size_drew, size_drewN]; omega))).trans (by first | assumption | (go_simp; done))
  have A1_10 : w10.cell? ⟨w.heap.size, 1, none⟩ = some (.int .i64 b) := (hc10 _ _ (by first | omega | (simp only [World.size_alloc, World.size_setCell, World.size_drew, size_drewN]; omega))).trans (by first | assumption | (go_simp; done))
  have Al_10 : w.heap.size < w10.heap.size := by omega
  have An_10 : ¬ w.heap.size = w10.heap.size := by omega
  have B0_10 : w10.cell? ⟨w.heap.size + 1, 0, none⟩ = some (.int .i64 c) := (hc10 _ _ (by first | omega | (simp only [World.size_alloc, World.size_setCell, World.size_drew, size_drewN]; omega))).trans (by first | assumption | (go_simp; done))
  have B1_10 : w10.cell? ⟨w.heap.size + 1, 1, none⟩ = some (.int .i64 d) := (hc10 _ _ (by first | omega | (simp only [World.size_alloc, World.size_setCell, World.size_drew, size_drewN]; omega))).trans (by first | assumption | (go_simp; done))
  have Bl_10 : w.heap.size + 1 < w10.heap.size := by omega
  have Bn_10 : ¬ w.heap.size + 1 = w10.heap.size := by omega
  have C0_10 : w10.cell? ⟨w.heap.size + 1 + 1, 0, none⟩ = some (.int .i64 e) := (hc10 _ _ (by first | omega | (simp only [World.size_alloc, World.size_setCell, World.size_drew, size_drewN]; omega))).trans (by first | assumption | (go_simp; done))
  have C1_10 : w10.cell? ⟨w.heap.size + 1 + 1, 1, none⟩ = some (.int .i64 f) := (hc10 _ _ (by first | omega | (simp only [World.size_alloc, World.size_setCell, World.size_drew, size_drewN]; omega))).trans (by first | assumption | (go_simp; done))
  have Cl_10 : w.heap.size + 1 + 1 < w10.heap.size := by omega
  have Cn_10 : ¬ w.heap.size + 1 + 1 = w10.heap.size := by omega
  have D0_10 : w10.cell? ⟨w4.heap.size, 0, none⟩ = some (.int .i64 (RM.addS a b c d).1) := (hc10 _ _ (by first | omega | (simp only [World.size_alloc, World.size_setCell, World.size_drew, size_drewN]; omega))).trans (by first | assumption | (go_simp; done))
  have D1_10 : w10.cell? ⟨w4.heap.size, 1, none⟩ = some (.int .i64 (RM.addS a b c d).2.1) := (hc10 _ _ (by first | omega | (simp only [World.size_alloc, World.size_setCell, World.size_drew, size_drewN]; omega))).trans (by first | assumption | (go_simp; done))
  have Dl_10 : w4.heap.size < w10.heap.size := by omega
  have Dn_10 : ¬ w4.heap.size = w10.heap.size := by omega
  have I0_10 : w10.cell? ⟨w9.heap.size, 0, none⟩ = some (.int .i64 a) := (hc10 _ _ (by first | omega | (simp only [World.size_alloc, World.size_setCell, World.size_drew, size_drewN]; omega))).trans (by first | assumption | (go_simp; done))
  have I1_10 : w10.cell? ⟨w9.heap.size, 1, none⟩ = some (.int .i64 b) := (hc10 _ _ (by first | omega | (simp only [World.size_alloc, World.size_setCell, World.size_drew, size_drewN]; omega))).trans (by first | assumption | (go_simp; done))
  have Il_10 : w9.heap.size < w10.heap.size := by omega
  have In_10 : ¬ w9.heap.size = w10.heap.size := by omega
  have hW10 : Below w.heap.size w w10 := by
    (repeat' (first | (with_reducible exact Below.refl _ _) | (with_reducible refine Below.alloc ?_ ?_ _) | (with_reducible refine below_drewN' ?_ _) | (with_reducible refine Below.drew ?_) | (with_reducible refine Below.setCell ?_ ?_ _) | (with_reducible refine Below.trans ?_ (Below.mono (by with_reducible assumption) ?_)) | go_size))
  clear A0_9 A1_9 Al_9 An_9 B0_9 B1_9 Bl_9 Bn_9 C0_9 C1_9 Cl_9 Cn_9 D0_9 D1_9 Dl_9 Dn_9 hW9 hs9
  clear hc10 hb10
  go_wp2_with fail
  refine (Mul_c c d a b hc hd ha hb _).mono ?_
  rintro e' w11 ⟨rfl, hb11⟩
  have hc11 := old_cell hb11
  have hs11 := hb11.size
  (try simp only [World.size_alloc, World.size_setCell, World.size_drew, size_drewN] at hs11)
  have A0_11 : w11.cell? ⟨w.heap.size, 0, none⟩ = some (.int .i64 a) := (hc11 _ _ (by first | omega | (simp only [World.size_alloc, World.size_setCell, World.size_drew, size_drewN]; omega))).trans (by first | assumption | (go_simp; done))
  have A1_11 : w11.cell? ⟨w.heap.size, 1, none⟩ = some (.int .i64 b) := (hc11 _ _ (by first | omega | (simp only [World.size_alloc, World.size_setCell, World.size_drew, size_drewN]; omega))).trans (by first | assumption | (go_simp; done))
  have Al_11 : w.heap.size < w11.heap.size := by omega
  have An_11 : ¬ w.heap.size = w11.heap.size := by omega
  have B0_11 : w11.cell? ⟨w.heap.size + 1, 0, none⟩ = some (.int .i64 c) := (hc11 _ _ (by first | omega | (simp only [World.size_alloc, World.size_setCell, World.size_drew, size_drewN]; omega))).trans (by first | assumption | (go_simp; done))
  have B1_11 : w11.cell? ⟨w.heap.size + 1, 1, none⟩ = some (.int .i64 d) := (hc11 _ _ (by first | omega | (simp only [World.size_alloc, World.size_setCell, World.size_drew, size_drewN]; omega))).trans (by first | assumption | (go_simp; done))
  have Bl_11 : w.heap.size + 1 < w11.heap.size := by omega
  have Bn_11 : ¬ w.heap.size + 1 = w11.heap.size := by omega
  have C0_11 : w11.cell? ⟨w.heap.size + 1 + 1, 0, none⟩ = some (.int .i64 e) := (hc11 _ _ (by first | omega | (simp only [World.size_alloc, World.size_setCell, World.size_drew, size_drewN]; omega))).trans (by first | assumption | (go_simp; done))
  have C1_11 : w11.cell? ⟨w.heap.size + 1 + 1, 1, none⟩ = some (.int .i64 f) := (hc11 _ _ (by first | omega | (simp only [World.size_alloc, World.size_setCell, World.size_drew, size_drewN]; omega))).trans (by first | assumption | (go_simp; done))
  have Cl_11 : w.heap.size + 1 + 1 < w11.heap.size := by omega
  have Cn_11 : ¬ w.heap.size + 1 + 1 = w11.heap.size := by omega
  have D0_11 : w11.cell? ⟨w4.heap.size, 0, none⟩ = some (.int .i64 (RM.addS a b c d).1) := (hc11 _ _ (by first | omega | (simp only [World.size_alloc, World.size_setCell, World.size_drew, size_drewN]; omega))).trans (by first | assumption | (go_simp; done))
  have D1_11 : w11.cell? ⟨w4.heap.size, 1, none⟩ = some (.int .i64 (RM.addS a b c d).2.1) := (hc11 _ _ (by first | omega | (simp only [World.size_alloc, World.size_setCell, World.size_drew, size_drewN]; omega))).trans (by first | assumption | (go_simp; done))
  have Dl_11 : w4.heap.size < w11.heap.size := by omega
  have Dn_11 : ¬ w4.heap.size = w11.heap.size := by omega
  have I0_11 : w11.cell? ⟨w9.heap.size, 0, none⟩ = some (.int .i64 a) := (hc11 _ _ (by first | omega | (simp only [World.size_alloc, World.size_setCell, World.size_drew, size_drewN]; omega))).trans (by first | assumption | (go_simp; done))
  have I1_11 : w11.cell? ⟨w9.heap.size, 1, none⟩ = some (.int .i64 b) := (hc11 _ _ (by first | omega | (simp only [World.size_alloc, World.size_setCell, World.size_drew, size_drewN]; omega))).trans (by first | assumption | (go_simp; done))
  have Il_11 : w9.heap.size < w11.heap.size := by omega
  have In_11 : ¬ w9.heap.size = w11.heap.size := by omega
  have Q0_11 : w11.cell? ⟨w10.heap.size, 0, none⟩ = some (.int .i64 (RM.mulS a b c d).1) := (hc11 _ _ (by first | omega | (simp only [World.size_alloc, World.size_setCell, World.size_drew, size_drewN]; omega))).trans (by first | assumption | (go_simp; done))
  have Q1_11 : w11.cell? ⟨w10.heap.size, 1, none⟩ = some (.int .i64 (RM.mulS a b c d).2.1) := (hc11 _ _ (by first | omega | (simp only [World.size_alloc, World.size_setCell, World.size_drew, size_drewN]; omega))).trans (by first | assumption | (go_simp; done))
  have Ql_11 : w10.heap.size < w11.heap.size := by omega
  have Qn_11 : ¬ w10.heap.size = w11.heap.size := by omega
  have hW11 : Below w.heap.size w w11 := by
    (repeat' (first | (with_reducible exact Below.refl _ _) | (with_reducible refine Below.alloc ?_ ?_ _) | (with_reducible refine below_drewN' ?_ _) | (with_reducible refine Below.drew ?_) | (with_reducible refine Below.setCell ?_ ?_ _) | (with_reducible refine Below.trans ?_ (Below.mono (by with_reducible assumption) ?_)) | go_size))
  clear A0_10 A1_10 Al_10 An_10 B0_10 B1_10 Bl_10 Bn_10 C0_10 C1_10 Cl_10 Cn_10 D0_10 D1_10 Dl_10 Dn_10 I0_10 I1_10 Il_10 In_10 hW10 hs10
  clear hc11 hb11
  go_wp2_with fail
  refine (Mul_c a b e f ha hb he hf _).mono ?_
  rintro e' w12 ⟨rfl, hb12⟩
  have hc12 := old_cell hb12
  have hs12 := hb12.size
  (try simp only [World.size_alloc, World.size_setCell, World.size_drew, size_drewN] at hs12)
  have A0_12 : w12.cell? ⟨w.heap.size, 0, none⟩ = some (.int .i64 a) := (hc12 _ _ (by first | omega | (simp only [World.size_alloc, World.size_setCell, World.size_drew, size_drewN]; omega))).trans (by first | assumption | (go_simp; done))
  have A1_12 : w12.cell? ⟨w.heap.size, 1, none⟩ = some (.int .i64 b) := (hc12 _ _ (by first | omega | (simp only [World.size_alloc, World.size_setCell, World.size_drew, size_drewN]; omega))).trans (by first | assumption | (go_simp; done))
  have Al_12 : w.heap.size < w12.heap.size := by omega
  have An_12 : ¬ w.heap.size = w12.heap.size := by omega
  have B0_12 : w12.cell? ⟨w.heap.size + 1, 0, none⟩ = some (.int .i64 c) := (hc12 _ _ (by first | omega | (simp only [World.size_alloc, World.size_setCell, World.size_drew, size_drewN]; omega))).trans (by first | assumption | (go_simp; done))
  have B1_12 : w12.cell? ⟨w.heap.size + 1, 1, none⟩ = some (.int .i64 d) := (hc12 _ _ (by first | omega | (simp only [World.size_alloc, World.size_setCell, World.size_drew, size_drewN]; omega))).trans (by first | assumption | (go_simp; done))
  have Bl_12 : w.heap.size + 1 < w12.heap.size := by omega
  have Bn_12 : ¬ w.heap.size + 1 = w12.heap.size := by omega
  have C0_12 : w12.cell? ⟨w.heap.size + 1 + 1, 0, none⟩ = some (.int .i64 e) := (hc12 _ _ (by first | omega | (simp only [World.size_alloc, World.size_setCell, World.size_drew, size_drewN]; omega))).trans (by first | assumption | (go_simp; done))
  have C1_12 : w12.cell? ⟨w.heap.size + 1 + 1, 1, none⟩ = some (.int .i64 f) := (hc12 _ _ (by first | omega | (simp only [World.size_alloc, World.size_setCell, World.size_drew, size_drewN]; omega))).trans (by first | assumption | (go_simp; done))
  have Cl_12 : w.heap.size + 1 + 1 < w12.heap.size := by omega
  have Cn_12 : ¬ w.heap.size + 1 + 1 = w12.heap.size := by omega
  have D0_12 : w12.cell? ⟨w4.heap.size, 0, none⟩ = some (.int .i64 (RM.addS a b c d).1) := (hc12 _ _ (by first | omega | (simp only [World.size_alloc, World.size_setCell, World.size_drew, size_drewN]; omega))).trans (by first | assumption | (go_simp; done))
  have D1_12 : w12.cell? ⟨w4.heap.size, 1, none⟩ = some (.int .i64 (RM.addS a b c d).2.1) := (hc12 _ _ (by first | omega | (simp only [World.size_alloc, World.size_setCell, World.size_drew, size_drewN]; omega))).trans (by first | assumption | (go_simp; done))
  have Dl_12 : w4.heap.size < w12.heap.size := by omega
  have Dn_12 : ¬ w4.heap.size = w12.heap.size := by omega
  have hW12 : Below w.heap.size w w12 := by
    (repeat' (first | (with_reducible exact Below.refl _ _) | (with_reducible refine Below.alloc ?_ ?_ _) | (with_reducible refine below_drewN' ?_ _) | (with_reducible refine Below.drew ?_) | (with_reducible refine Below.setCell ?_ ?_ _) | (with_reducible refine Below.trans ?_ (Below.mono (by with_reducible assumption) ?_)) | go_size))
  clear A0_11 A1_11 Al_11 An_11 B0_11 B1_11 Bl_11 Bn_11 C0_11 C1_11 Cl_11 Cn_11 D0_11 D1_11 Dl_11 Dn_11 I0_11 I1_11 Il_11 In_11 Q0_11 Q1_11 Ql_11 Qn_11 hW11 hs11
  clear hc12 hb12
  go_wp2_with fail
  refine (Mul_c c d e f hc hd he hf _).mono ?_
  rintro e' w13 ⟨rfl, hb13⟩
  have hc13 := old_cell hb13
  have hs13 := hb13.size
  (try simp only [World.size_alloc, World.size_setCell, World.size_drew, size_drewN] at hs13)
  have A0_13 : w13.cell? ⟨w.heap.size, 0, none⟩ = some (.int .i64 a) := (hc13 _ _ (by first | omega | (simp only [World.size_alloc, World.size_setCell, World.size_drew, size_drewN]; omega))).trans (by first | assumption | (go_simp; done))
  have A1_13 : w13.cell? ⟨w.heap.size, 1, none⟩ = some (.int .i64 b) := (hc13 _ _ (by first | omega | (simp only [World.size_alloc, World.size_setCell, World.size_drew, size_drewN]; omega))).trans (by first | assumption | (go_simp; done))
  have Al_13 : w.heap.size < w13.heap.size := by omega
  have An_13 : ¬ w.heap.size = w13.heap.size := by omega
  have B0_13 : w13.cell? ⟨w.heap.size + 1, 0, none⟩ = some (.int .i64 c) := (hc13 _ _ (by first | omega | (simp only [World.size_alloc, World.size_setCell, World.size_drew, size_drewN]; omega))).trans (by first | assumption | (go_simp; done))
  have B1_13 : w13.cell? ⟨w.heap.size + 1, 1, none⟩ = some (.int .i64 d) := (hc13 _ _ (by first | omega | (simp only [World.size_alloc, World.size_setCell, World.size_drew, size_drewN]; omega))).trans (by first | assumption | (go_simp; done))
  have Bl_13 : w.heap.size + 1 < w13.heap.size := by omega
  have Bn_13 : ¬ w.heap.size + 1 = w13.heap.size := by omega
  have C0_13 : w13.cell? ⟨w.heap.size + 1 + 1, 0, none⟩ = some (.int .i64 e) := (hc13 _ _ (by first | omega | (simp only [World.size_alloc, World.size_setCell, World.size_drew, size_drewN]; omega))).trans (by first | assumption | (go_simp; done))
  have C1_13 : w13.cell? ⟨w.heap.size + 1 + 1, 1, none⟩ = some (.int .i64 f) := (hc13 _ _ (by first | omega | (simp only [World.size_alloc, World.size_setCell, World.size_drew, size_drewN]; omega))).trans (by first | assumption | (go_simp; done))
  have Cl_13 : w.heap.size + 1 + 1 < w13.heap.size := by omega
  have Cn_13 : ¬ w.heap.size + 1 + 1 = w13.heap.size := by omega
  have D0_13 : w13.cell? ⟨w4.heap.size, 0, none⟩ = some (.int .i64 (RM.addS a b c d).1) := (hc13 _ _ (by first | omega | (simp only [World.size_alloc, World.size_setCell, World.size_drew, size_drewN]; omega))).trans (by first | assumption | (go_simp; done))
  have D1_13 : w13.cell? ⟨w4.heap.size, 1, none⟩ = some (.int .i64 (RM.addS a b c d).2.1) := (hc13 _ _ (by first | omega | (simp only [World.size_alloc, World.size_setCell, World.size_drew, size_drewN]; omega))).trans (by first | assumption | (go_simp; done))
  have Dl_13 : w4.heap.size < w13.heap.size := by omega
  have Dn_13 : ¬ w4.heap.size = w13.heap.size := by omega
  have S0_13 : w13.cell? ⟨w12.heap.size, 0, none⟩ = some (.int .i64 (RM.mulS a b e f).1) := (hc13 _ _ (by first | omega | (simp only [World.size_alloc, World.size_setCell, World.size_drew, size_drewN]; omega))).trans (by first | assumption | (go_simp; done))
  have S1_13 : w13.cell? ⟨w12.heap.size, 1, none⟩ = some (.int .i64 (RM.mulS a b e f).2.1) := (hc13 _ _ (by first | omega | (simp only [World.size_alloc, World.size_setCell, World.size_drew, size_drewN]; omega))).trans (by first | assumption | (go_simp; done))
  have Sl_13 : w12.heap.size < w13.heap.size := by omega
  have Sn_13 : ¬ w12.heap.size = w13.heap.size := by omega
  have hW13 : Below w.heap.size w w13 := by
    (repeat' (first | (with_reducible exact Below.refl _ _) | (with_reducible refine Below.alloc ?_ ?_ _) | (with_reducible refine below_drewN' ?_ _) | (with_reducible refine Below.drew ?_) | (with_reducible refine Below.setCell ?_ ?_ _) | (with_reducible refine Below.trans ?_ (Below.mono (by with_reducible assumption) ?_)) | go_size))
  clear A0_12 A1_12 Al_12 An_12 B0_12 B1_12 Bl_12 Bn_12 C0_12 C1_12 Cl_12 Cn_12 D0_12 D1_12 Dl_12 Dn_12 hW12 hs12
  clear hc13 hb13
  go_wp2_with fail
  refine (Mul_c (RM.addS a b c d).1 (RM.addS a b c d).2.1 e f bAB.1 bAB.2 he hf _).mono ?_
  rintro e' w14 ⟨rfl, hb14⟩
  have hc14 := old_cell hb14
  have hs14 := hb14.size
  (try simp only [World.size_alloc, World.size_setCell, World.size_drew, size_drewN] at hs14)
  have A0_14 : w14.cell? ⟨w.heap.size, 0, none⟩ = some (.int .i64 a) := (hc14 _ _ (by first | omega | (simp only [World.size_alloc, World.size_setCell, World.size_drew, size_drewN]; omega))).trans (by first | assumption | (go_simp; done))
  have A1_14 : w14.cell? ⟨w.heap.size, 1, none⟩ = some (.int .i64 b) := (hc14 _ _ (by first | omega | (simp only [World.size_alloc, World.size_setCell, World.size_drew, size_drewN]; omega))).trans (by first | assumption | (go_simp; done))
  have Al_14 : w.heap.size < w14.heap.size := by omega
  have An_14 : ¬ w.heap.size = w14.heap.size := by omega
  have B0_14 : w14.cell? ⟨w.heap.size + 1, 0, none⟩ = some (.int .i64 c) := (hc14 _ _ (by first | omega | (simp only [World.size_alloc, World.size_setCell, World.size_drew, size_drewN]; omega))).trans (by first | assumption | (go_simp; done))
  have B1_14 : w14.cell? ⟨w.heap.size + 1, 1, none⟩ = some (.int .i64 d) := (hc14 _ _ (by first | omega | (simp only [World.size_alloc, World.size_setCell, World.size_drew, size_drewN]; omega))).trans (by first | assumption | (go_simp; done))
  have Bl_14 : w.heap.size + 1 < w14.heap.size := by omega
  have Bn_14 : ¬ w.heap.size + 1 = w14.heap.size := by omega
  have C0_14 : w14.cell? ⟨w.heap.size + 1 + 1, 0, none⟩ = some (.int .i64 e) := (hc14 _ _ (by first | omega | (simp only [World.size_alloc, World.size_setCell, World.size_drew, size_drewN]; omega))).trans (by first | assumption | (go_simp; done))
  have C1_14 : w14.cell? ⟨w.heap.size + 1 + 1, 1, none⟩ = some (.int .i64 f) := (hc14 _ _ (by first | omega | (simp only [World.size_alloc, World.size_setCell, World.size_drew, size_drewN]; omega))).trans (by first | assumption | (go_simp; done))
  have Cl_14 : w.heap.size + 1 + 1 < w14.heap.size := by omega
  have Cn_14 : ¬ w.heap.size + 1 + 1 = w14.heap.size := by omega
  have D0_14 : w14.cell? ⟨w4.heap.size, 0, none⟩ = some (.int .i64 (RM.addS a b c d).1) := (hc14 _ _ (by first | omega | (simp only [World.size_alloc, World.size_setCell, World.size_drew, size_drewN]; omega))).trans (by first | assumption | (go_simp; done))
  have D1_14 : w14.cell? ⟨w4.heap.size, 1, none⟩ = some (.int .i64 (RM.addS a b c d).2.1) := (hc14 _ _ (by first | omega | (simp only [World.size_alloc, World.size_setCell, World.size_drew, size_drewN]; omega))).trans (by first | assumption | (go_simp; done))
  have Dl_14 : w4.heap.size < w14.heap.size := by omega
  have Dn_14 : ¬ w4.heap.size = w14.heap.size := by omega
  have S0_14 : w14.cell? ⟨w12.heap.size, 0, none⟩ = some (.int .i64 (RM.mulS a b e f).1) := (hc14 _ _ (by first | omega | (simp only [World.size_alloc, World.size_setCell, World.size_drew, size_drewN]; omega))).trans (by first | assumption | (go_simp; done))
  have S1_14 : w14.cell? ⟨w12.heap.size, 1, none⟩ = some (.int .i64 (RM.mulS a b e f).2.1) := (hc14 _ _ (by first | omega | (simp only [World.size_alloc, World.size_setCell, World.size_drew, size_drewN]; omega))).trans (by first | assumption | (go_simp; done))
  have Sl_14 : w12.heap.size < w14.heap.size := by omega
  have Sn_14 : ¬ w12.heap.size = w14.heap.size := by omega
  have U0_14 : w14.cell? ⟨w13.heap.size, 0, none⟩ = some (.int .i64 (RM.mulS c d e f).1) := (hc14 _ _ (by first | omega | (simp only [World.size_alloc, World.size_setCell, World.size_drew, size_drewN]; omega))).trans (by first | assumption | (go_simp; done))
  have U1_14 : w14.cell? ⟨w13.heap.size, 1, none⟩ = some (.int .i64 (RM.mulS c d e f).2.1) := (hc14 _ _ (by first | omega | (simp only [World.size_alloc, World.size_setCell, World.size_drew, size_drewN]; omega))).trans (by first | assumption | (go_simp; done))
  have Ul_14 : w13.heap.size < w14.heap.size := by omega
  have Un_14 : ¬ w13.heap.size = w14.heap.size := by omega
  have hW14 : Below w.heap.size w w14 := by
    (repeat' (first | (with_reducible exact Below.refl _ _) | (with_reducible refine Below.alloc ?_ ?_ _) | (with_reducible refine below_drewN' ?_ _) | (with_reducible refine Below.drew ?_) | (with_reducible refine Below.setCell ?_ ?_ _) | (with_reducible refine Below.trans ?_ (Below.mono (by with_reducible assumption) ?_)) | go_size))
  clear A0_13 A1_13 Al_13 An_13 B0_13 B1_13 Bl_13 Bn_13 C0_13 C1_13 Cl_13 Cn_13 D0_13 D1_13 Dl_13 Dn_13 S0_13 S1_13 Sl_13 Sn_13 hW13 hs13
  clear hc14 hb14
  go_wp2_with fail
  refine (Add_c (RM.mulS a b e f).1 (RM.mulS a b e f).2.1 (RM.mulS c d e f).1 (RM.mulS c d e f).2.1 bR.1 bR.2 bS.1 bS.2 _).mono ?_
  rintro e' w15 ⟨rfl, hb15⟩
  have hc15 := old_cell hb15
  have hs15 := hb15.size
  (try simp only [World.size_alloc, World.size_setCell, World.size_drew, size_drewN] at hs15)
  have A0_15 : w15.cell? ⟨w.heap.size, 0, none⟩ = some (.int .i64 a) := (hc15 _ _ (by first | omega | (simp only [World.size_alloc, World.size_setCell, World.size_drew, size_drewN]; omega))).trans (by first | assumption | (go_simp; done))
  have A1_15 : w15.cell? ⟨w.heap.size, 1, none⟩ = some (.int .i64 b) := (hc15 _ _ (by first | omega | (simp only [World.size_alloc, World.size_setCell, World.size_drew, size_drewN]; omega))).trans (by first | assumption | (go_simp; done))
  have Al_15 : w.heap.size < w15.heap.size := by omega
  have An_15 : ¬ w.heap.size = w15.heap.size := by omega
  have B0_15 : w15.cell? ⟨w.heap.size + 1, 0, none⟩ = some (.int .i64 c) := (hc15 _ _ (by first | omega | (simp only [World.size_alloc, World.size_setCell, World.size_drew, size_drewN]; omega))).trans (by first | assumption | (go_simp; done))
  have B1_15 : w15.cell? ⟨w.heap.size + 1, 1, none⟩ = some (.int .i64 d) := (hc15 _ _ (by first | omega | (simp only [World.size_alloc, World.size_setCell, World.size_drew, size_drewN]; omega))).trans (by first | assumption | (go_simp; done))
  have Bl_15 : w.heap.size + 1 < w15.heap.size := by omega
  have Bn_15 : ¬ w.heap.size + 1 = w15.heap.size := by omega
  have C0_15 : w15.cell? ⟨w.heap.size + 1 + 1, 0, none⟩ = some (.int .i64 e) := (hc15 _ _ (by first | omega | (simp only [World.size_alloc, World.size_setCell, World.size_drew, size_drewN]; omega))).trans (by first | assumption | (go_simp; done))
  have C1_15 : w15.cell? ⟨w.heap.size + 1 + 1, 1, none⟩ = some (.int .i64 f) := (hc15 _ _ (by first | omega | (simp only [World.size_alloc, World.size_setCell, World.size_drew, size_drewN]; omega))).trans (by first | assumption | (go_simp; done))
  have Cl_15 : w.heap.size + 1 + 1 < w15.heap.size := by omega
  have Cn_15 : ¬ w.heap.size + 1 + 1 = w15.heap.size := by omega
  have D0_15 : w15.cell? ⟨w4.heap.size, 0, none⟩ = some (.int .i64 (RM.addS a b c d).1) := (hc15 _ _ (by first | omega | (simp only [World.size_alloc, World.size_setCell, World.size_drew, size_drewN]; omega))).trans (by first | assumption | (go_simp; done))
  have D1_15 : w15.cell? ⟨w4.heap.size, 1, none⟩ = some (.int .i64 (RM.addS a b c d).2.1) := (hc15 _ _ (by first | omega | (simp only [World.size_alloc, World.size_setCell, World.size_drew, size_drewN]; omega))).trans (by first | assumption | (go_simp; done))
  have Dl_15 : w4.heap.size < w15.heap.size := by omega
  have Dn_15 : ¬ w4.heap.size = w15.heap.size := by omega
  have S0_15 : w15.cell? ⟨w12.heap.size, 0, none⟩ = some (.int .i64 (RM.mulS a b e f).1) := (hc15 _ _ (by first | omega | (simp only [World.size_alloc, World.size_setCell, World.size_drew, size_drewN]; omega))).trans (by first | assumption | (go_simp; done))
  have S1_15 : w15.cell? ⟨w12.heap.size, 1, none⟩ = some (.int .i64 (RM.mulS a b e f).2.1) := (hc15 _ _ (by first | omega | (simp only [World.size_alloc, World.size_setCell, World.size_drew, size_drewN]; omega))).trans (by first | assumption | (go_simp; done))
  have Sl_15 : w12.heap.size < w15.heap.size := by omega
  have Sn_15 : ¬ w12.heap.size = w15.heap.size := by omega
  have U0_15 : w15.cell? ⟨w13.heap.size, 0, none⟩ = some (.int .i64 (RM.mulS c d e f).1) := (hc15 _ _ (by first | omega | (simp only [World.size_alloc, World.size_setCell, World.size_drew, size_drewN]; omega))).trans (by first | assumption | (go_simp; done))
  have U1_15 : w15.cell? ⟨w13.heap.size, 1, none⟩ = some (.int .i64 (RM.mulS c d e f).2.1) := (hc15 _ _ (by first | omega | (simp only [World.size_alloc, World.size_setCell, World.size_drew, size_drewN]; omega))).trans (by first | assumption | (go_simp; done))
  have Ul_15 : w13.heap.size < w15.heap.size := by omega
  have Un_15 : ¬ w13.heap.size = w15.heap.size := by omega
  have V0_15 : w15.cell? ⟨w14.heap.size, 0, none⟩ = some (.int .i64 (RM.mulS (RM.addS a b c d).1 (RM.addS a b c d).2.1 e f).1) := (hc15 _ _ (by first | omega | (simp only [World.size_alloc, World.size_setCell, World.size_drew, size_drewN]; omega))).trans (by first | assumption | (go_simp; done))
  have V1_15 : w15.cell? ⟨w14.heap.size, 1, none⟩ = some (.int .i64 (RM.mulS (RM.addS a b c d).1 (RM.addS a b c d).2.1 e f).2.1) := (hc15 _ _ (by first | omega | (simp only [World.size_alloc, World.size_setCell, World.size_drew, size_drewN]; omega))).trans (by first | assumption | (go_simp; done))
  have Vl_15 : w14.heap.size < w15.heap.size := by omega
  have Vn_15 : ¬ w14.heap.size = w15.heap.size := by omega
  have hW15 : Below w.heap.size w w15 := by
    (repeat' (first | (with_reducible exact Below.refl _ _) | (with_reducible refine Below.alloc ?_ ?_ _) | (with_reducible refine below_drewN' ?_ _) | (with_reducible refine Below.drew ?_) | (with_reducible refine Below.setCell ?_ ?_ _) | (with_reducible refine Below.trans ?_ (Below.mono (by with_reducible assumption) ?_)) | go_size))
  clear A0_14 A1_14 Al_14 An_14 B0_14 B1_14 Bl_14 Bn_14 C0_14 C1_14 Cl_14 Cn_14 D0_14 D1_14 Dl_14 Dn_14 S0_14 S1_14 Sl_14 Sn_14 U0_14 U1_14 Ul_14 Un_14 hW14 hs14
  clear hc15 hb15
  by_cases m0 : (RM.mulS a b e f).2.2 = 0
  · by_cases n0 : (RM.mulS c d e f).2.2 = 0
    · have rZ := rU m0 n0
      by_cases o0 : (RM.mulS (RM.addS a b c d).1 (RM.addS a b c d).2.1 e f).2.2 = 0
      · have v0 : (RM.addS (RM.mulS a b e f).1 (RM.mulS a b e f).2.1 (RM.mulS c d e f).1 (RM.mulS c d e f).2.1).2.2 = 0 := by rw [rZ]; exact o0
        have rZ1 : (RM.addS (RM.mulS a b e f).1 (RM.mulS a b e f).2.1 (RM.mulS c d e f).1 (RM.mulS c d e f).2.1).1 = (RM.mulS (RM.addS a b c d).1 (RM.addS a b c d).2.1 e f).1 := by rw [rZ]
        have rZ2 : (RM.addS (RM.mulS a b e f).1 (RM.mulS a b e f).2.1 (RM.mulS c d e f).1 (RM.mulS c d e f).2.1).2.1 = (RM.mulS (RM.addS a b c d).1 (RM.addS a b c d).2.1 e f).2.1 := by rw [rZ]
        go_wp2_with fail
        refine (awake_c _).mono ?_
        rintro e' wz ⟨rfl, hbz⟩
        go_wp2
        go_ret
        refine ⟨rfl, ?_⟩
        (repeat' (first | (with_reducible exact Below.refl _ _) | (with_reducible refine Below.alloc ?_ ?_ _) | (with_reducible refine below_drewN' ?_ _) | (with_reducible refine Below.drew ?_) | (with_reducible refine Below.setCell ?_ ?_ _) | (with_reducible refine Below.trans ?_ (Below.mono (by with_reducible assumption) ?_)) | go_size))
      · have o1 : ((RM.mulS (RM.addS a b c d).1 (RM.addS a b c d).2.1 e f).2.2 == 0) = false := by simpa using o0
        clear o0
        go_wp2_with fail
        refine (awake_c _).mono ?_
        rintro e' wz ⟨rfl, hbz⟩
        go_wp2
        go_ret
        refine ⟨rfl, ?_⟩
        (repeat' (first | (with_reducible exact Below.refl _ _) | (with_reducible refine Below.alloc ?_ ?_ _) | (with_reducible refine below_drewN' ?_ _) | (with_reducible refine Below.drew ?_) | (with_reducible refine Below.setCell ?_ ?_ _) | (with_reducible refine Below.trans ?_ (Below.mono (by with_reducible assumption) ?_)) | go_size))
    · have n1 : ((RM.mulS c d e f).2.2 == 0) = false := by simpa using n0
      clear n0
      go_wp2_with fail
      refine (awake_c _).mono ?_
      rintro e' wz ⟨rfl, hbz⟩
      go_wp2
      go_ret
      refine ⟨rfl, ?_⟩
      (repeat' (first | (with_reducible exact Below.refl _ _) | (with_reducible refine Below.alloc ?_ ?_ _) | (with_reducible refine below_drewN' ?_ _) | (with_reducible refine Below.drew ?_) | (with_reducible refine Below.setCell ?_ ?_ _) | (with_reducible refine Below.trans ?_ (Below.mono (by with_reducible assumption) ?_)) | go_size))
  · have m1 : ((RM.mulS a b e f).2.2 == 0) = false := by simpa using m0
    clear m0
    go_wp2_with fail
    refine (awake_c _).mono ?_
    rintro e' wz ⟨rfl, hbz⟩
    go_wp2
    go_ret
    refine ⟨rfl, ?_⟩
    (repeat' (first | (with_reducible exact Below.refl _ _) | (with_reducible refine Below.alloc ?_ ?_ _) | (with_reducible refine below_drewN' ?_ _) | (with_reducible refine Below.drew ?_) | (with_reducible refine Below.setCell ?_ ?_ _) | (with_reducible refine Below.trans ?_ (Below.mono (by with_reducible assumption) ?_)) | go_size))
end Go.Proofs.Ytamcnollfjbmbaa
