/- The reference's Floor and Round; the law RationalRounds as a contract. -/
import Derived.Test.YtamcnollfjbmbaaRatR
namespace Go.Proofs.Ytamcnollfjbmbaa
open Go.RowKit

set_option linter.unusedSimpArgs false in
set_option maxHeartbeats 400000 in
theorem rFloor_c (n d : Int) (hn : -9223372036854775808 ≤ n ∧ n ≤ 9223372036854775807) (hd : -9223372036854775808 ≤ d ∧ d ≤ 9223372036854775807) (w : World) :
    Calls Try.prog 27 #[.agg #[.int .i64 n, .int .i64 d]] w fun e w' => e = .returned (.int .i64 (RM.floorS n d)) ∧ Below w.heap.size w w' := by
  cases hk : RM.ok n d
  · have HE := Lib.hid (RM.floorS_bad hk)
    go_enter Try.func27, Try.ntmps27
    go_wp2_with (first | (go_at_call 15; refine (rvalid_c _ _ (by omega) (by omega) _).mono ?_; rintro e w1 ⟨rfl, hb1⟩; have hc1 := old_cell hb1; have hf1 := old_frozen hb1; have hs1 := hb1.size; (try simp only [World.size_alloc, World.size_setCell, World.size_drew, size_drewN] at hs1); have lw_1 : w.heap.size < w1.heap.size := (by omega); have mw_1 : w.heap.size < w1.heap.size + 1 := (by omega); have nw_1 : ¬ w.heap.size = w1.heap.size := (by omega)))
    go_ret
    refine ⟨ret_int HE.out.symm, ?_⟩
    (repeat' (first | (with_reducible exact Below.refl _ _) | (with_reducible refine Below.alloc ?_ ?_ _) | (with_reducible refine below_drewN' ?_ _) | (with_reducible refine Below.drew ?_) | (with_reducible refine Below.setCell ?_ ?_ _) | (with_reducible refine Below.trans ?_ (Below.mono (by with_reducible assumption) ?_)) | go_size))
  · have HE0 := RM.floorS_ok hk
    obtain ⟨k1, k2, _⟩ := RM.ok_parts hk
    have hd0 : ¬ d = 0 := by omega
    by_cases hneg : n < 0
    · obtain ⟨f1, f2, f3, f4, f7, f5, f6⟩ := RM.tdiv_facts n d hneg k1
      have v1 := IntWalk.i64_in (n.tdiv d) (by omega)
      by_cases hm : n.tmod d < 0
      · rw [if_pos hm] at f5 f6
        have f8 := f7 hm
        rw [f5] at HE0
        have HE := Lib.hid HE0
        clear f5 f6 f7 HE0
        go_enter Try.func27, Try.ntmps27
        go_wp2_with (first | (go_at_call 15; refine (rvalid_c _ _ (by omega) (by omega) _).mono ?_; rintro e w1 ⟨rfl, hb1⟩; have hc1 := old_cell hb1; have hf1 := old_frozen hb1; have hs1 := hb1.size; (try simp only [World.size_alloc, World.size_setCell, World.size_drew, size_drewN] at hs1); have lw_1 : w.heap.size < w1.heap.size := (by omega); have mw_1 : w.heap.size < w1.heap.size + 1 := (by omega); have nw_1 : ¬ w.heap.size = w1.heap.size := (by omega)))
        go_ret
        refine ⟨ret_int HE.out.symm, ?_⟩
        (repeat' (first | (with_reducible exact Below.refl _ _) | (with_reducible refine Below.alloc ?_ ?_ _) | (with_reducible refine below_drewN' ?_ _) | (with_reducible refine Below.drew ?_) | (with_reducible refine Below.setCell ?_ ?_ _) | (with_reducible refine Below.trans ?_ (Below.mono (by with_reducible assumption) ?_)) | go_size))
      · rw [if_neg hm] at f5 f6
        rw [f5] at HE0
        have HE := Lib.hid HE0
        clear f5 f6 f7 HE0
        go_enter Try.func27, Try.ntmps27
        go_wp2_with (first | (go_at_call 15; refine (rvalid_c _ _ (by omega) (by omega) _).mono ?_; rintro e w1 ⟨rfl, hb1⟩; have hc1 := old_cell hb1; have hf1 := old_frozen hb1; have hs1 := hb1.size; (try simp only [World.size_alloc, World.size_setCell, World.size_drew, size_drewN] at hs1); have lw_1 : w.heap.size < w1.heap.size := (by omega); have mw_1 : w.heap.size < w1.heap.size + 1 := (by omega); have nw_1 : ¬ w.heap.size = w1.heap.size := (by omega)))
        go_ret
        refine ⟨ret_int HE.out.symm, ?_⟩
        (repeat' (first | (with_reducible exact Below.refl _ _) | (with_reducible refine Below.alloc ?_ ?_ _) | (with_reducible refine below_drewN' ?_ _) | (with_reducible refine Below.drew ?_) | (with_reducible refine Below.setCell ?_ ?_ _) | (with_reducible refine Below.trans ?_ (Below.mono (by with_reducible assumption) ?_)) | go_size))
    · have hn0 : 0 ≤ n := by omega
      obtain ⟨g1, g2, g3, g4, _⟩ := RM.ediv_facts n d k1 hn
      have v1 := IntWalk.i64_in (n / d) (by omega)
      have HE := Lib.hid HE0
      clear HE0
      go_enter Try.func27, Try.ntmps27
      go_wp2_with (first | (go_at_call 15; refine (rvalid_c _ _ (by omega) (by omega) _).mono ?_; rintro e w1 ⟨rfl, hb1⟩; have hc1 := old_cell hb1; have hf1 := old_frozen hb1; have hs1 := hb1.size; (try simp only [World.size_alloc, World.size_setCell, World.size_drew, size_drewN] at hs1); have lw_1 : w.heap.size < w1.heap.size := (by omega); have mw_1 : w.heap.size < w1.heap.size + 1 := (by omega); have nw_1 : ¬ w.heap.size = w1.heap.size := (by omega)))
      go_ret
      refine ⟨ret_int HE.out.symm, ?_⟩
      (repeat' (first | (with_reducible exact Below.refl _ _) | (with_reducible refine Below.alloc ?_ ?_ _) | (with_reducible refine below_drewN' ?_ _) | (with_reducible refine Below.drew ?_) | (with_reducible refine Below.setCell ?_ ?_ _) | (with_reducible refine Below.trans ?_ (Below.mono (by with_reducible assumption) ?_)) | go_size))

set_option linter.unusedSimpArgs false in
set_option maxHeartbeats 400000 in
theorem rRound_c (n d : Int) (hn : -9223372036854775808 ≤ n ∧ n ≤ 9223372036854775807) (hd : -9223372036854775808 ≤ d ∧ d ≤ 9223372036854775807) (w : World) :
    Calls Try.prog 29 #[.agg #[.int .i64 n, .int .i64 d]] w fun e w' => e = .returned (.int .i64 (RM.roundS n d)) ∧ Below w.heap.size w w' := by
  cases hk : RM.ok n d
  · have HE := Lib.hid (RM.roundS_bad hk)
    go_enter Try.func29, Try.ntmps29
    go_wp2_with (first | (go_at_call 15; refine (rvalid_c _ _ (by omega) (by omega) _).mono ?_; rintro e w1 ⟨rfl, hb1⟩; have hc1 := old_cell hb1; have hf1 := old_frozen hb1; have hs1 := hb1.size; (try simp only [World.size_alloc, World.size_setCell, World.size_drew, size_drewN] at hs1); have lw_1 : w.heap.size < w1.heap.size := (by omega); have mw_1 : w.heap.size < w1.heap.size + 1 := (by omega); have nw_1 : ¬ w.heap.size = w1.heap.size := (by omega)) | (go_at_call 27; refine (rFloor_c _ _ (by omega) (by omega) _).mono ?_; rintro e w2 ⟨rfl, hb2⟩; have hc2 := old_cell hb2; have hf2 := old_frozen hb2; have hs2 := hb2.size; (try simp only [World.size_alloc, World.size_setCell, World.size_drew, size_drewN] at hs2); have lw_2 : w.heap.size < w2.heap.size := (by omega); have mw_2 : w.heap.size < w2.heap.size + 1 := (by omega); have nw_2 : ¬ w.heap.size = w2.heap.size := (by omega)))
    go_ret
    refine ⟨ret_int HE.out.symm, ?_⟩
    (repeat' (first | (with_reducible exact Below.refl _ _) | (with_reducible refine Below.alloc ?_ ?_ _) | (with_reducible refine below_drewN' ?_ _) | (with_reducible refine Below.drew ?_) | (with_reducible refine Below.setCell ?_ ?_ _) | (with_reducible refine Below.trans ?_ (Below.mono (by with_reducible assumption) ?_)) | go_size))
  · obtain ⟨k1, k2, _⟩ := RM.ok_parts hk
    have hd0 : ¬ d = 0 := by omega
    have hF := RM.floorS_ok hk
    obtain ⟨g1, g2, g3, g4, g5⟩ := RM.ediv_facts n d k1 hn
    by_cases hh : d - n % d ≤ n % d
    · have HE0 := RM.roundS_up hk hh
      have g6 := g5 hh
      clear g5
      by_cases hneg : n < 0
      · obtain ⟨f1, f2, f3, f4, f7, f5, f6⟩ := RM.tdiv_facts n d hneg k1
        by_cases hm : n.tmod d < 0
        · rw [if_pos hm] at f6
          rw [f6] at hh g1 g2
          have HE := Lib.hid HE0
          clear f5 f6 f7 HE0
          go_enter Try.func29, Try.ntmps29
          go_wp2_with (first | (go_at_call 15; refine (rvalid_c _ _ (by omega) (by omega) _).mono ?_; rintro e w1 ⟨rfl, hb1⟩; have hc1 := old_cell hb1; have hf1 := old_frozen hb1; have hs1 := hb1.size; (try simp only [World.size_alloc, World.size_setCell, World.size_drew, size_drewN] at hs1); have lw_1 : w.heap.size < w1.heap.size := (by omega); have mw_1 : w.heap.size < w1.heap.size + 1 := (by omega); have nw_1 : ¬ w.heap.size = w1.heap.size := (by omega)) | (go_at_call 27; refine (rFloor_c _ _ (by omega) (by omega) _).mono ?_; rintro e w2 ⟨rfl, hb2⟩; have hc2 := old_cell hb2; have hf2 := old_frozen hb2; have hs2 := hb2.size; (try simp only [World.size_alloc, World.size_setCell, World.size_drew, size_drewN] at hs2); have lw_2 : w.heap.size < w2.heap.size := (by omega); have mw_2 : w.heap.size < w2.heap.size + 1 := (by omega); have nw_2 : ¬ w.heap.size = w2.heap.size := (by omega)))
          go_ret
          refine ⟨ret_int HE.out.symm, ?_⟩
          (repeat' (first | (with_reducible exact Below.refl _ _) | (with_reducible refine Below.alloc ?_ ?_ _) | (with_reducible refine below_drewN' ?_ _) | (with_reducible refine Below.drew ?_) | (with_reducible refine Below.setCell ?_ ?_ _) | (with_reducible refine Below.trans ?_ (Below.mono (by with_reducible assumption) ?_)) | go_size))
        · rw [if_neg hm] at f6
          rw [f6] at hh g1 g2
          have HE := Lib.hid HE0
          clear f5 f6 f7 HE0
          exfalso
          omega
      · have hn0 : 0 ≤ n := by omega
        have HE := Lib.hid HE0
        clear HE0
        go_enter Try.func29, Try.ntmps29
        go_wp2_with (first | (go_at_call 15; refine (rvalid_c _ _ (by omega) (by omega) _).mono ?_; rintro e w1 ⟨rfl, hb1⟩; have hc1 := old_cell hb1; have hf1 := old_frozen hb1; have hs1 := hb1.size; (try simp only [World.size_alloc, World.size_setCell, World.size_drew, size_drewN] at hs1); have lw_1 : w.heap.size < w1.heap.size := (by omega); have mw_1 : w.heap.size < w1.heap.size + 1 := (by omega); have nw_1 : ¬ w.heap.size = w1.heap.size := (by omega)) | (go_at_call 27; refine (rFloor_c _ _ (by omega) (by omega) _).mono ?_; rintro e w2 ⟨rfl, hb2⟩; have hc2 := old_cell hb2; have hf2 := old_frozen hb2; have hs2 := hb2.size; (try simp only [World.size_alloc, World.size_setCell, World.size_drew, size_drewN] at hs2); have lw_2 : w.heap.size < w2.heap.size := (by omega); have mw_2 : w.heap.size < w2.heap.size + 1 := (by omega); have nw_2 : ¬ w.heap.size = w2.heap.size := (by omega)))
        go_ret
        refine ⟨ret_int HE.out.symm, ?_⟩
        (repeat' (first | (with_reducible exact Below.refl _ _) | (with_reducible refine Below.alloc ?_ ?_ _) | (with_reducible refine below_drewN' ?_ _) | (with_reducible refine Below.drew ?_) | (with_reducible refine Below.setCell ?_ ?_ _) | (with_reducible refine Below.trans ?_ (Below.mono (by with_reducible assumption) ?_)) | go_size))
    · have HE0 := RM.roundS_down hk hh
      clear g5
      by_cases hneg : n < 0
      · obtain ⟨f1, f2, f3, f4, f7, f5, f6⟩ := RM.tdiv_facts n d hneg k1
        by_cases hm : n.tmod d < 0
        · rw [if_pos hm] at f6
          rw [f6] at hh g1 g2
          have HE := Lib.hid HE0
          clear f5 f6 f7 HE0
          go_enter Try.func29, Try.ntmps29
          go_wp2_with (first | (go_at_call 15; refine (rvalid_c _ _ (by omega) (by omega) _).mono ?_; rintro e w1 ⟨rfl, hb1⟩; have hc1 := old_cell hb1; have hf1 := old_frozen hb1; have hs1 := hb1.size; (try simp only [World.size_alloc, World.size_setCell, World.size_drew, size_drewN] at hs1); have lw_1 : w.heap.size < w1.heap.size := (by omega); have mw_1 : w.heap.size < w1.heap.size + 1 := (by omega); have nw_1 : ¬ w.heap.size = w1.heap.size := (by omega)) | (go_at_call 27; refine (rFloor_c _ _ (by omega) (by omega) _).mono ?_; rintro e w2 ⟨rfl, hb2⟩; have hc2 := old_cell hb2; have hf2 := old_frozen hb2; have hs2 := hb2.size; (try simp only [World.size_alloc, World.size_setCell, World.size_drew, size_drewN] at hs2); have lw_2 : w.heap.size < w2.heap.size := (by omega); have mw_2 : w.heap.size < w2.heap.size + 1 := (by omega); have nw_2 : ¬ w.heap.size = w2.heap.size := (by omega)))
          go_ret
          refine ⟨ret_int HE.out.symm, ?_⟩
          (repeat' (first | (with_reducible exact Below.refl _ _) | (with_reducible refine Below.alloc ?_ ?_ _) | (with_reducible refine below_drewN' ?_ _) | (with_reducible refine Below.drew ?_) | (with_reducible refine Below.setCell ?_ ?_ _) | (with_reducible refine Below.trans ?_ (Below.mono (by with_reducible assumption) ?_)) | go_size))
        · rw [if_neg hm] at f6
          rw [f6] at hh g1 g2
          have HE := Lib.hid HE0
          clear f5 f6 f7 HE0
          go_enter Try.func29, Try.ntmps29
          go_wp2_with (first | (go_at_call 15; refine (rvalid_c _ _ (by omega) (by omega) _).mono ?_; rintro e w1 ⟨rfl, hb1⟩; have hc1 := old_cell hb1; have hf1 := old_frozen hb1; have hs1 := hb1.size; (try simp only [World.size_alloc, World.size_setCell, World.size_drew, size_drewN] at hs1); have lw_1 : w.heap.size < w1.heap.size := (by omega); have mw_1 : w.heap.size < w1.heap.size + 1 := (by omega); have nw_1 : ¬ w.heap.size = w1.heap.size := (by omega)) | (go_at_call 27; refine (rFloor_c _ _ (by omega) (by omega) _).mono ?_; rintro e w2 ⟨rfl, hb2⟩; have hc2 := old_cell hb2; have hf2 := old_frozen hb2; have hs2 := hb2.size; (try simp only [World.size_alloc, World.size_setCell, World.size_drew, size_drewN] at hs2); have lw_2 : w.heap.size < w2.heap.size := (by omega); have mw_2 : w.heap.size < w2.heap.size + 1 := (by omega); have nw_2 : ¬ w.heap.size = w2.heap.size := (by omega)))
          go_ret
          refine ⟨ret_int HE.out.symm, ?_⟩
          (repeat' (first | (with_reducible exact Below.refl _ _) | (with_reducible refine Below.alloc ?_ ?_ _) | (with_reducible refine below_drewN' ?_ _) | (with_reducible refine Below.drew ?_) | (with_reducible refine Below.setCell ?_ ?_ _) | (with_reducible refine Below.trans ?_ (Below.mono (by with_reducible assumption) ?_)) | go_size))
      · have hn0 : 0 ≤ n := by omega
        have HE := Lib.hid HE0
        clear HE0
        go_enter Try.func29, Try.ntmps29
        go_wp2_with (first | (go_at_call 15; refine (rvalid_c _ _ (by omega) (by omega) _).mono ?_; rintro e w1 ⟨rfl, hb1⟩; have hc1 := old_cell hb1; have hf1 := old_frozen hb1; have hs1 := hb1.size; (try simp only [World.size_alloc, World.size_setCell, World.size_drew, size_drewN] at hs1); have lw_1 : w.heap.size < w1.heap.size := (by omega); have mw_1 : w.heap.size < w1.heap.size + 1 := (by omega); have nw_1 : ¬ w.heap.size = w1.heap.size := (by omega)) | (go_at_call 27; refine (rFloor_c _ _ (by omega) (by omega) _).mono ?_; rintro e w2 ⟨rfl, hb2⟩; have hc2 := old_cell hb2; have hf2 := old_frozen hb2; have hs2 := hb2.size; (try simp only [World.size_alloc, World.size_setCell, World.size_drew, size_drewN] at hs2); have lw_2 : w.heap.size < w2.heap.size := (by omega); have mw_2 : w.heap.size < w2.heap.size + 1 := (by omega); have nw_2 : ¬ w.heap.size = w2.heap.size := (by omega)))
        go_ret
        refine ⟨ret_int HE.out.symm, ?_⟩
        (repeat' (first | (with_reducible exact Below.refl _ _) | (with_reducible refine Below.alloc ?_ ?_ _) | (with_reducible refine below_drewN' ?_ _) | (with_reducible refine Below.drew ?_) | (with_reducible refine Below.setCell ?_ ?_ _) | (with_reducible refine Below.trans ?_ (Below.mono (by with_reducible assumption) ?_)) | go_size))

set_option linter.unusedSimpArgs false in
set_option maxHeartbeats 400000 in
theorem lawRounds_c (n d : Int) (hn : -9223372036854775808 ≤ n ∧ n ≤ 9223372036854775807) (hd : -9223372036854775808 ≤ d ∧ d ≤ 9223372036854775807) (w : World) :
    Calls Try.prog 7 #[.agg #[.int .i64 n, .int .i64 d]] w fun e w' => e = .returned (.bool true) ∧ Below w.heap.size w w' := by
  go_enter Try.func7, Try.ntmps7
  go_wp2_with fail
  go_region_held3 (fun w' => w'.cell? ⟨w.heap.size, 0, none⟩ = some (.int .i64 n) ∧ w'.cell? ⟨w.heap.size, 1, none⟩ = some (.int .i64 d) ∧ w.heap.size < w'.heap.size) ((refine ⟨?_, ?_, ?_⟩ <;> (first | go_keep | (go_simp; done) | omega))) (first | (go_at_call 13; refine (awake_c _).mono ?_; rintro e w1 ⟨rfl, hb1⟩; have hc1 := old_cell hb1; have hf1 := old_frozen hb1; have hs1 := hb1.size; (try simp only [World.size_alloc, World.size_setCell, World.size_drew, size_drewN] at hs1); have lw_1 : w.heap.size < w1.heap.size := (by omega); have mw_1 : w.heap.size < w1.heap.size + 1 := (by omega); have nw_1 : ¬ w.heap.size = w1.heap.size := (by omega)) | (go_at_call 26; refine (Floor_c _ _ (by omega) (by omega) _).mono ?_; rintro e w2 ⟨rfl, hb2⟩; have hc2 := old_cell hb2; have hf2 := old_frozen hb2; have hs2 := hb2.size; (try simp only [World.size_alloc, World.size_setCell, World.size_drew, size_drewN] at hs2); have lw_2 : w.heap.size < w2.heap.size := (by omega); have mw_2 : w.heap.size < w2.heap.size + 1 := (by omega); have nw_2 : ¬ w.heap.size = w2.heap.size := (by omega)) | (go_at_call 27; refine (rFloor_c _ _ (by omega) (by omega) _).mono ?_; rintro e w3 ⟨rfl, hb3⟩; have hc3 := old_cell hb3; have hf3 := old_frozen hb3; have hs3 := hb3.size; (try simp only [World.size_alloc, World.size_setCell, World.size_drew, size_drewN] at hs3); have lw_3 : w.heap.size < w3.heap.size := (by omega); have mw_3 : w.heap.size < w3.heap.size + 1 := (by omega); have nw_3 : ¬ w.heap.size = w3.heap.size := (by omega)) | (go_at_call 28; refine (Round_c _ _ (by omega) (by omega) _).mono ?_; rintro e w4 ⟨rfl, hb4⟩; have hc4 := old_cell hb4; have hf4 := old_frozen hb4; have hs4 := hb4.size; (try simp only [World.size_alloc, World.size_setCell, World.size_drew, size_drewN] at hs4); have lw_4 : w.heap.size < w4.heap.size := (by omega); have mw_4 : w.heap.size < w4.heap.size + 1 := (by omega); have nw_4 : ¬ w.heap.size = w4.heap.size := (by omega)) | (go_at_call 29; refine (rRound_c _ _ (by omega) (by omega) _).mono ?_; rintro e w5 ⟨rfl, hb5⟩; have hc5 := old_cell hb5; have hf5 := old_frozen hb5; have hs5 := hb5.size; (try simp only [World.size_alloc, World.size_setCell, World.size_drew, size_drewN] at hs5); have lw_5 : w.heap.size < w5.heap.size := (by omega); have mw_5 : w.heap.size < w5.heap.size + 1 := (by omega); have nw_5 : ¬ w.heap.size = w5.heap.size := (by omega)))
  go_wp2
  go_ret
  refine ⟨rfl, ?_⟩
  (repeat' (first | (with_reducible exact Below.refl _ _) | (with_reducible refine Below.alloc ?_ ?_ _) | (with_reducible refine below_drewN' ?_ _) | (with_reducible refine Below.drew ?_) | (with_reducible refine Below.setCell ?_ ?_ _) | (with_reducible refine Below.trans ?_ (Below.mono (by with_reducible assumption) ?_)) | go_size))

end Go.Proofs.Ytamcnollfjbmbaa
