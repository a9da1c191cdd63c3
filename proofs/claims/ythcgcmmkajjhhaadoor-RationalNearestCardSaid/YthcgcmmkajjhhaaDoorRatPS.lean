/- The code's Position: isScale, stepOf, nearest. -/
import Derived.Test.YthcgcmmkajjhhaaDoorRatPU
import Derived.Test.YthcgcmmkajjhhaaDoorRatDiv
import Derived.Test.YthcgcmmkajjhhaaDoorRatRCmp2
import Derived.Deep.RegionHeld3
import Derived.Deep.MidRow
import Derived.Deep.Cut
import Derived.Deep.DeepCutAuto
namespace Go.Proofs.YthcgcmmkajjhhaaDoor
open Go.RowKit

/-- the table lies in its variable -/
def Us (W : World) : Prop := ∀ j v, usualC[j]? = some v → W.cell? ⟨0, j, none⟩ = some v
theorem Us.lt {W : World} (h : Us W) : 0 < W.heap.size := by
  have h0 := h 0 (.int .i64 24000) rfl
  exact World.block_lt_of_cell? W _ h0
theorem Us.keep {W W' : World} (h : Us W) (k : W'.heap[0]? = W.heap[0]?) : Us W' := fun j v hj => by
  rw [← h j v hj]
  exact World.cell?_of_block k
theorem Us.to {W W' : World} {B : Nat} (h : Us W) (k : Below B W W') (hB : W.heap.size ≤ B) : Us W' := h.keep (k.block _ (Nat.lt_of_lt_of_le h.lt hB))
theorem Us.alloc {W : World} (h : Us W) (o : Obj) : Us (W.alloc o) := h.keep (Below.heap_alloc W o _ h.lt)
theorem Us.load {W : World} (h : Us W) : (Instr.loadAt 74 (.pointer (some ⟨0, 0, none⟩))).run Tryd.prog W = .ok (.agg usualC.toArray) W :=
  run_loadAt_mid W _ 0 _ usualC _ (fun j v hj => by rw [Nat.zero_add]; exact h j v hj) Tryd.underlying74 rfl (by kernel_rfl)

theorem usual_index0 (w : World) : (Instr.index 74 (.agg usualC.toArray) (.int .i64 0)).run Tryd.prog w = .ok (.agg #[.int .i64 24000, .int .i64 1001, .int .i64 2002, .int .i64 1]) w := by kernel_rfl
theorem usual_index1 (w : World) : (Instr.index 74 (.agg usualC.toArray) (.int .i64 1)).run Tryd.prog w = .ok (.agg #[.int .i64 24, .int .i64 1, .int .i64 2000, .int .i64 1]) w := by kernel_rfl
theorem usual_index2 (w : World) : (Instr.index 74 (.agg usualC.toArray) (.int .i64 2)).run Tryd.prog w = .ok (.agg #[.int .i64 25, .int .i64 1, .int .i64 1920, .int .i64 1]) w := by kernel_rfl
theorem usual_index3 (w : World) : (Instr.index 74 (.agg usualC.toArray) (.int .i64 3)).run Tryd.prog w = .ok (.agg #[.int .i64 30000, .int .i64 1001, .int .i64 8008, .int .i64 5]) w := by kernel_rfl
theorem usual_index4 (w : World) : (Instr.index 74 (.agg usualC.toArray) (.int .i64 4)).run Tryd.prog w = .ok (.agg #[.int .i64 30, .int .i64 1, .int .i64 1600, .int .i64 1]) w := by kernel_rfl
theorem usual_index5 (w : World) : (Instr.index 74 (.agg usualC.toArray) (.int .i64 5)).run Tryd.prog w = .ok (.agg #[.int .i64 50, .int .i64 1, .int .i64 960, .int .i64 1]) w := by kernel_rfl
theorem usual_index6 (w : World) : (Instr.index 74 (.agg usualC.toArray) (.int .i64 6)).run Tryd.prog w = .ok (.agg #[.int .i64 60000, .int .i64 1001, .int .i64 4004, .int .i64 5]) w := by kernel_rfl
theorem usual_index7 (w : World) : (Instr.index 74 (.agg usualC.toArray) (.int .i64 7)).run Tryd.prog w = .ok (.agg #[.int .i64 60, .int .i64 1, .int .i64 800, .int .i64 1]) w := by kernel_rfl
theorem usual_index (k : Nat) (hk : k < 8) (w : World) : (Instr.index 74 (.agg usualC.toArray) (.int .i64 (k : Int))).run Tryd.prog w = .ok (.agg #[.int .i64 (ta k), .int .i64 (tb k), .int .i64 (tc k), .int .i64 (td k)]) w := by
  have h : k = 0 ∨ k = 1 ∨ k = 2 ∨ k = 3 ∨ k = 4 ∨ k = 5 ∨ k = 6 ∨ k = 7 := by omega
  rcases h with rfl | rfl | rfl | rfl | rfl | rfl | rfl | rfl
  · exact usual_index0 w
  · exact usual_index1 w
  · exact usual_index2 w
  · exact usual_index3 w
  · exact usual_index4 w
  · exact usual_index5 w
  · exact usual_index6 w
  · exact usual_index7 w
theorem tab_parts (i : Nat) (hi : i < 8) : ∃ a b c d, ta i = a ∧ tb i = b ∧ tc i = c ∧ td i = d ∧ RM.Step a b 48000 1 c d := ⟨_, _, _, _, rfl, rfl, rfl, rfl, tab_step ⟨i, hi⟩⟩

set_option maxHeartbeats 1000000 in
theorem step_table (fn fd : Int) (w : World) (hU : Us w) (h1 : RM.scaleB fn fd = true) :
    Calls Tryd.prog 24 #[.agg #[.int .i64 fn, .int .i64 fd], .agg #[.int .i64 48000, .int .i64 1]] w fun e w' => ∃ sn sd, e = .returned (.agg #[.int .i64 sn, .int .i64 sd]) ∧ RM.Step fn fd 48000 1 sn sd ∧ Below w.heap.size w w' := by
  have hlt := hU.lt
  have HU := Lib.hid (fun A B C => ((hU.alloc A).alloc B).alloc C)
  clear hU
  go_enter Tryd.func24, Tryd.ntmps24
  go_wp2_with (refine wpList_load_mid rfl 74 _ rfl 0 0 rfl usualC _ (fun j v hj => by rw [Nat.zero_add]; exact HU.out _ _ _ j v hj) Tryd.underlying74 rfl (by kernel_rfl) ?_)
  clear HU
  obtain ⟨w3, hw3⟩ : ∃ w3, w3 = ((w.alloc (Obj.cells #[Value.int IntKind.i64 fn, Value.int IntKind.i64 fd] 23)).alloc (Obj.cells #[Value.int IntKind.i64 48000, Value.int IntKind.i64 1] 23)).alloc (Obj.cells #[Value.int IntKind.i64 0, Value.int IntKind.i64 0] 23) := ⟨_, rfl⟩
  rw [← hw3]
  have hb3 : Below w.heap.size w w3 := by rw [hw3]; exact (((Below.refl _ _).alloc (Nat.le_refl _) _).alloc (by simp) _).alloc (by simp; omega) _
  have e0 : w3.cell? ⟨w.heap.size, 0, none⟩ = some (.int .i64 fn) := by rw [hw3]; go_simp
  have e1 : w3.cell? ⟨w.heap.size, 1, none⟩ = some (.int .i64 fd) := by rw [hw3]; go_simp
  have e2 : w3.cell? ⟨w.heap.size + 1, 0, none⟩ = some (.int .i64 48000) := by rw [hw3]; go_simp
  have e3 : w3.cell? ⟨w.heap.size + 1, 1, none⟩ = some (.int .i64 1) := by rw [hw3]; go_simp
  have e4 : w3.cell? ⟨w.heap.size + 1 + 1, 0, none⟩ = some (.int .i64 0) := by rw [hw3]; go_simp
  have e5 : w3.cell? ⟨w.heap.size + 1 + 1, 1, none⟩ = some (.int .i64 0) := by rw [hw3]; go_simp
  have f4 : w3.frozen? ⟨w.heap.size + 1 + 1, 0, none⟩ = false := by rw [hw3]; go_simp
  have f5 : w3.frozen? ⟨w.heap.size + 1 + 1, 1, none⟩ = false := by rw [hw3]; go_simp
  have hs3 : w3.heap.size = w.heap.size + 1 + 1 + 1 := by rw [hw3]; simp
  have Hb3 := Lib.hid hb3
  clear hw3 hb3
  go_loopw [13] (fun i wr => ∃ k : Nat, k ≤ 8 ∧ i = .int .i64 (k : Int) ∧ Below w3.heap.size w3 wr) (fun i _ => 8 - (intOf i).toNat)
  case atStart => exact ⟨0, by omega, rfl, Below.refl _ _⟩
  case round =>
    obtain ⟨k, hk, rfl, hB⟩ := hrel
    have hsz := hB.size
    have HB := Lib.hid hB
    have d0 := (old_cell hB _ 0 (by omega)).trans e0
    have d1 := (old_cell hB _ 1 (by omega)).trans e1
    have d2 := (old_cell hB _ 0 (by omega)).trans e2
    have d3 := (old_cell hB _ 1 (by omega)).trans e3
    have d4 := (old_cell hB _ 0 (by omega)).trans e4
    have d5 := (old_cell hB _ 1 (by omega)).trans e5
    have g4 := (old_frozen hB _ 0 (by omega)).trans f4
    have g5 := (old_frozen hB _ 1 (by omega)).trans f5
    have lr : w.heap.size + 1 + 1 < wr.heap.size := by omega
    have lr1 : w.heap.size + 1 < wr.heap.size := by omega
    have lr0 : w.heap.size < wr.heap.size := by omega
    have HW := Lib.hid (show Below w.heap.size w wr from Hb3.out.trans (hB.mono (by omega)))
    clear hB e0 e1 e2 e3 e4 e5 f4 f5
    by_cases hlt8 : k < 8
    · obtain ⟨a, b, c, d, h2, h3, h4, h5, hst⟩ := tab_parts k hlt8
      have hix := fun w => usual_index k hlt8 w
      rw [h2, h3, h4, h5] at hix
      have Hst := Lib.hid hst
      clear hst h2 h3 h4 h5
      by_cases heq : a = fn ∧ b = fd
      · obtain ⟨rfl, rfl⟩ := heq
        have hrun := rateq_run a b
        go_wp2_with fail
        refine bodyPost_ret (v := .agg #[.int .i64 c, .int .i64 d]) (by simp [results, Tryd.results24, go_sem, *]) rfl ⟨c, d, rfl, Hst.out, ?_⟩
        (repeat' (first | (with_reducible exact HW.out) | (with_reducible refine Below.alloc ?_ ?_ _) | (with_reducible refine below_drewN' ?_ _) | (with_reducible refine Below.drew ?_) | (with_reducible refine Below.setCell ?_ ?_ _) | go_size))
      · have hrun := ratneq_run a b fn fd heq
        clear heq
        go_wp2_with fail
        go_roundw
        case rel =>
          refine ⟨k + 1, by omega, by go_num, ?_⟩
          (repeat' (first | (with_reducible exact HB.out) | (with_reducible refine Below.alloc ?_ ?_ _) | (with_reducible refine below_drewN' ?_ _) | (with_reducible refine Below.drew ?_) | (with_reducible refine Below.setCell ?_ ?_ _) | go_size))
        case measure => simp [intOf]; omega
    · obtain rfl : k = 8 := by omega
      have h2 : RM.scaleB 48000 1 = true := by decide +kernel
      obtain ⟨sn, sd, hdv, hst⟩ := RM.step_enc h1 h2
      obtain ⟨o1, p1, p2, p3, p4⟩ := RM.scale_parts h1
      have Hst := Lib.hid hst; have Hdv := Lib.hid hdv
      clear hst hdv h1 h2
      go_wp2_with fail
      refine (Div_c 48000 1 fn fd (by omega) (by omega) (by omega) (by omega) _).mono ?_
      rintro e w5 ⟨rfl, hb5⟩
      rw [Hdv.out]
      have k4 := (old_cell hb5 _ 0 lr).trans d4
      have k5 := (old_cell hb5 _ 1 lr).trans d5
      have l4 := (old_frozen hb5 _ 0 lr).trans g4
      have l5 := (old_frozen hb5 _ 1 lr).trans g5
      have hs5 := hb5.size
      have lr5 : w.heap.size + 1 + 1 < w5.heap.size := by omega
      have nr5 : ¬ w.heap.size + 1 + 1 = w5.heap.size := by omega
      have HW5 := Lib.hid (show Below w.heap.size w w5 from HW.out.trans (hb5.mono (by omega)))
      clear hb5 d0 d1 d2 d3 d4 d5 g4 g5
      go_wp2_with fail
      refine bodyPost_ret (v := .agg #[.int .i64 sn, .int .i64 sd]) (by simp [results, Tryd.results24, go_sem, *]) rfl ⟨sn, sd, rfl, Hst.out, ?_⟩
      (repeat' (first | (with_reducible exact HW5.out) | (with_reducible refine Below.alloc ?_ ?_ _) | (with_reducible refine below_drewN' ?_ _) | (with_reducible refine Below.drew ?_) | (with_reducible refine Below.setCell ?_ ?_ _) | go_size))
end Go.Proofs.YthcgcmmkajjhhaaDoor
