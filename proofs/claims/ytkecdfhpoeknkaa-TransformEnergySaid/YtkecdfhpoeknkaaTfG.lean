/- The reference's Forward where an element is no sample. -/
import Derived.Test.YtkecdfhpoeknkaaTfF
namespace Go.Proofs.Ytkecdfhpoeknkaa
set_option linter.unusedVariables false
set_option linter.unusedSimpArgs false
open Go.RowKit Go.Sort

/-- the zero value of a type, by a term -/
theorem wpl_build_to {P : Program} {ops : Array Oper} {rest : List Oper} {o : Oper} {a : Act} {w : World} {Q : Exit → Act → World → Prop} (hg : o.guard = none) (t : TypeId) (ho : o.op = .build t #[])
    (cells : Array Value) (hb : P.built t [] = some cells) (h : wpList P ops Q rest (a.put o.dst (.agg cells)) w) : wpList P ops Q (o :: rest) a w :=
  wpList_build hg t #[] ho (by simp [hb]) (by simpa [hb] using h)

set_option maxRecDepth 20000 in
set_option maxHeartbeats 1000000 in
theorem forward_out (f : Nat → Int) (h : ∃ n, n < 64 ∧ ¬ (-255 ≤ f n ∧ f n ≤ 255)) (w : World) :
    Calls Try.prog 19 #[.agg (blk f)] w fun e w' => e = .returned (.tuple #[.agg (blk fun _ => 0), .int .i64 2]) ∧ Below w.heap.size w w' := by
  have HX0 := Lib.hid (Cel.made w 27 (blk f))
  have HH := Lib.hid h
  go_enter Try.func19, Try.ntmps19
  go_wp2_with fail
  show Code.wp _ _ _ _ ((w.alloc (Obj.cells (blk f) 27)).alloc (Obj.cells (blk fun _ => 0) 27))
  have hX1 : Cel ((w.alloc (Obj.cells (blk f) 27)).alloc (Obj.cells (blk fun _ => 0) 27)) w.heap.size 27 (blk f) := HX0.out.alloc _
  have hR1 : Cel ((w.alloc (Obj.cells (blk f) 27)).alloc (Obj.cells (blk fun _ => 0) 27)) (w.heap.size + 1) 27 (blk fun _ => 0) := by
    have := Cel.made (w.alloc (Obj.cells (blk f) 27)) 27 (blk fun _ => 0)
    rwa [World.size_alloc] at this
  have hB1 : Below w.heap.size w ((w.alloc (Obj.cells (blk f) 27)).alloc (Obj.cells (blk fun _ => 0) 27)) := ((Below.refl _ _).alloc (Nat.le_refl _) _).alloc (by rw [World.size_alloc]; omega) _
  generalize ((w.alloc (Obj.cells (blk f) 27)).alloc (Obj.cells (blk fun _ => 0) 27)) = W1 at *
  clear HX0
  have HX1 := Lib.hid hX1
  have HR1 := Lib.hid hR1
  have HB1 := Lib.hid hB1
  clear hX1 hR1 hB1 h
  go_loopw [3, 4] (fun c a wr => ∃ n : Nat, n ≤ 64 ∧ c = .int .i64 0 ∧ a = .int .i64 (n : Int) ∧ wr = W1 ∧ ∀ m, m < n → -255 ≤ f m ∧ f m ≤ 255) (fun _ a _ => 64 - (intOf a).toNat)
  case atStart => exact ⟨0, by decide, rfl, rfl, rfl, fun m h => absurd h (Nat.not_lt_zero m)⟩
  case round =>
    obtain ⟨n, hn, rfl, rfl, rfl, hall⟩ := hrel
    have HA := Lib.hid hall
    clear hall
    by_cases hlt : n < 64
    · have d1 : decide ((n : Int) < 64) = true := by simp; omega
      have c0 := (HX1.out.cell n).trans (blk_at f n hlt)
      by_cases hin : -255 ≤ f n ∧ f n ≤ 255
      · have HN := Lib.hid (show ∀ m, m < n + 1 → -255 ≤ f m ∧ f m ≤ 255 from fun m hm => by
          by_cases e : m = n
          · subst e; exact hin
          · exact HA.out m (by omega))
        have d2 : decide (f n < -255) = false := by simp; omega
        have d3 : decide (255 < f n) = false := by simp; omega
        clear hin
        generalize f n = v at *
        go_wp2_with fail
        go_roundw
        case rel => exact ⟨n + 1, by omega, rfl, congrArg (Value.int .i64) (by omega), by trivial, HN.out⟩
        case measure => simp [intOf]; omega
      · have hres := HR1.out
        have hb := HB1.out
        have HRow := Lib.hid (setRow_heap wr (w.heap.size + 1) _ (blk fun _ => 0) _ _ hres)
        have hW : Below w.heap.size w (wr.setRow (w.heap.size + 1) (blk fun _ => 0)) := by
          refine ⟨hb.os, hb.tape, hb.output, by rw [setRow_size]; exact hb.size, fun j hj => ?_⟩
          rw [setRow_other _ _ _ _ (by omega)]
          exact hb.block j hj
        have HW := Lib.hid hW
        clear hW hb
        by_cases h1 : f n < -255
        · have d2 : decide (f n < -255) = true := by simpa using h1
          clear hin h1 HA
          generalize f n = v at *
          go_wp2_with (first | (refine wpl_build_to rfl 27 rfl (blk fun _ => 0) (by kernel_rfl) ?_) | (refine wpList_store_row rfl 27 _ _ rfl (w.heap.size + 1) (blk fun _ => 0) rfl rfl 27 _ hres (by rw [blk_size]; kernel_rfl) (by simp only [blk_size]) (blk_one _) ?_))
          refine bodyPost_ret (v := .tuple #[.agg (blk fun _ => 0), .int .i64 2]) (by simp [results, Try.results19, asAddr, run_loadVar_row _ _ _ _ _ _ _ HRow.out Try.underlying27 rfl (by rw [blk_size]; kernel_rfl)]) rfl ⟨rfl, HW.out⟩
        · have d2 : decide (f n < -255) = false := by simpa using h1
          have d3 : decide (255 < f n) = true := by simp; omega
          clear hin h1 HA
          generalize f n = v at *
          go_wp2_with (first | (refine wpl_build_to rfl 27 rfl (blk fun _ => 0) (by kernel_rfl) ?_) | (refine wpList_store_row rfl 27 _ _ rfl (w.heap.size + 1) (blk fun _ => 0) rfl rfl 27 _ hres (by rw [blk_size]; kernel_rfl) (by simp only [blk_size]) (blk_one _) ?_))
          refine bodyPost_ret (v := .tuple #[.agg (blk fun _ => 0), .int .i64 2]) (by simp [results, Try.results19, asAddr, run_loadVar_row _ _ _ _ _ _ _ HRow.out Try.underlying27 rfl (by rw [blk_size]; kernel_rfl)]) rfl ⟨rfl, HW.out⟩
    · exfalso
      obtain ⟨m, hm, hbad⟩ := HH.out
      exact hbad (HA.out m (by omega))
end Go.Proofs.Ytkecdfhpoeknkaa
