/- Indexing arrays by value; the code's matrix, inside, Basis. -/
import Derived.Test.YtkecdfhpoeknkaaTfF
import Derived.ChangeKeysEq
import Derived.Laws.Entries
namespace Go.Proofs.Ytkecdfhpoeknkaa
set_option linter.unusedVariables false
set_option linter.unusedSimpArgs false
open Go.RowKit Go.Sort

section
variable {P : Program}
theorem run_isAgg_of {t : TypeId} {d : TypeDesc} (h : P.underlying t = some d) (w : World) : (isAgg t).run P w = .ok (match d with | .struct _ | .array _ _ => true | _ => false) w := by
  unfold isAgg
  rw [Sem.run_bind, run_underlying h w]
  cases d <;> simp_all
theorem run_sizeOf_of {t : TypeId} {n : Nat} (h : (P.info? t).map (·.size) = some n) (w : World) : (sizeOf t).run P w = .ok n w := by
  cases hq : P.info? t with
  | none => simp [hq] at h
  | some i =>
    have hs : i.size = n := by simpa [hq] using h
    simp [sizeOf, typeInfo, hq, hs]
/-- an element of an array by value that is one cell -/
theorem run_index_word {t e : TypeId} {N : Nat} {cs : Array Value} {d : TypeDesc} {i : Nat} {v : Value} (w : World) (h : P.underlying t = some (.array N e)) (he : P.underlying e = some d)
    (hd : (match d with | .struct _ | .array _ _ => true | _ => false) = false) (hs : (P.info? e).map (·.size) = some 1) (hi : i < N) (hv : cs[i]? = some v) :
    (Instr.index t (.agg cs) (.int .i64 (i : Int))).run P w = .ok v w := by
  have h1 : (i : Int) < N := by omega
  have ha := run_isAgg_of he w
  rw [hd] at ha
  simp only [Instr.index, asIntOf, Sem.run_bind, Sem.run_pure, Result.andThen_ok, run_underlying h w]
  rw [if_pos ⟨by omega, h1⟩]
  simp [part, Sem.run_bind, run_sizeOf_of hs, ha, hv]
/-- an element of an array by value that is an array -/
theorem run_index_row {t e e' : TypeId} {N M : Nat} {cs : Array Value} {i : Nat} (w : World) (h : P.underlying t = some (.array N e)) (he : P.underlying e = some (.array M e'))
    (hs : (P.info? e).map (·.size) = some M) (hi : i < N) :
    (Instr.index t (.agg cs) (.int .i64 (i : Int))).run P w = .ok (.agg (cs.extract (i * M) (i * M + M))) w := by
  have h1 : (i : Int) < N := by omega
  have ha := run_isAgg_of he w
  simp only at ha
  simp only [Instr.index, asIntOf, Sem.run_bind, Sem.run_pure, Result.andThen_ok, run_underlying h w]
  rw [if_pos ⟨by omega, h1⟩]
  simp [part, Sem.run_bind, run_sizeOf_of hs, ha]
end

/-- the cells of a row -/
def rw8 (f : Nat → Int) : Array Value := ((List.range 8).map fun n => Value.int .i64 (f n)).toArray
theorem rw8_size (f : Nat → Int) : (rw8 f).size = 8 := by unfold rw8; simp
theorem rw8_at (f : Nat → Int) (n : Nat) (h : n < 8) : (rw8 f)[n]? = some (.int .i64 (f n)) := by
  unfold rw8
  simp [List.getElem?_range h]
theorem rw8_one (f : Nat → Int) : (rw8 f).all (·.oneCell') = true := by
  unfold rw8
  rw [Array.all_eq_true]
  intro i hi
  simp [Value.oneCell']
theorem blk_row (f : Nat → Int) (i : Nat) (hi : i < 8) : (blk f).extract (i * 8) (i * 8 + 8) = rw8 fun k => f (8 * i + k) := by
  apply Array.ext_getElem?
  intro k
  rw [Array.getElem?_extract, blk_size]
  by_cases hk : k < 8
  · rw [rw8_at _ k hk, if_pos (by omega), blk_at _ _ (by omega)]
    rw [show i * 8 + k = 8 * i + k by omega]
  · rw [if_neg (by omega), Array.getElem?_eq_none (by rw [rw8_size]; omega)]
theorem idx64 (f : Nat → Int) (n : Nat) (h : n < 64) (w : World) : (Instr.index 27 (.agg (blk f)) (.int .i64 (n : Int))).run Try.prog w = .ok (.int .i64 (f n)) w :=
  run_index_word w Try.underlying27 Try.underlying3 rfl (by kernel_rfl) h (blk_at f n h)
theorem idx8 (f : Nat → Int) (n : Nat) (h : n < 8) (w : World) : (Instr.index 37 (.agg (rw8 f)) (.int .i64 (n : Int))).run Try.prog w = .ok (.int .i64 (f n)) w :=
  run_index_word w Try.underlying37 Try.underlying3 rfl (by kernel_rfl) h (rw8_at f n h)
theorem idx88 (f : Nat → Int) (n : Nat) (h : n < 8) (w : World) : (Instr.index 38 (.agg (blk f)) (.int .i64 (n : Int))).run Try.prog w = .ok (.agg (rw8 fun k => f (8 * n + k))) w := by
  rw [run_index_row w Try.underlying38 Try.underlying37 (by kernel_rfl) h, blk_row f n h]

/-- the matrix as a block -/
def tb (n : Nat) : Int := TF.tm (n / 8) (n % 8)
theorem tb_at (i k : Nat) (hk : k < 8) : tb (8 * i + k) = TF.tm i k := by
  unfold tb
  have a1 : (8 * i + k) / 8 = i := by omega
  have a2 : (8 * i + k) % 8 = k := by omega
  rw [a1, a2]
theorem tabV_blk : tabV.toArray = blk tb := by
  have : tabV = ((List.range 64).map fun n => Value.int .i64 (tb n)) := by kernel_rfl
  unfold blk
  rw [this]

theorem inside_c (i : Int) (w : World) : Calls Try.prog 24 #[.int .i64 i] w fun e w' => e = .returned (.bool (decide (0 ≤ i ∧ i < 8))) ∧ w' = w := by
  by_cases h : 0 ≤ i
  · have d1 : decide (0 ≤ i) = true := by simpa using h
    have d3 : decide (0 ≤ i ∧ i < 8) = decide (i < 8) := by simp [h]
    rw [d3]
    clear d3 h
    go_enter Try.func24, Try.ntmps24
    go_wp2
    go_ret
    exact ⟨rfl, rfl⟩
  · have d1 : decide (0 ≤ i) = false := by simpa using h
    have d3 : decide (0 ≤ i ∧ i < 8) = false := by simp [h]
    rw [d3]
    clear d3 h
    go_enter Try.func24, Try.ntmps24
    go_wp2
    go_ret
    exact ⟨rfl, rfl⟩

set_option maxRecDepth 20000 in
set_option maxHeartbeats 1000000 in
theorem matrix_c (w : World) : Calls Try.prog 25 #[] w fun e w' => e = .returned (.agg (blk tb)) ∧ Below w.heap.size w w' := by
  rw [← tabV_blk]
  go_enter Try.func25, Try.ntmps25
  go_wp2_with (refine wpl_store_new rfl 38 _ _ rfl tabV.toArray 38 _ rfl rfl (by kernel_rfl) (by kernel_rfl) (by kernel_rfl) ?_; intro w2 hc hcel hb; have HB := Lib.hid hb; have HCel := Lib.hid hcel; clear hc hcel hb)
  refine bodyPost_ret (v := .agg tabV.toArray) (by simp [results, Act.put, Try.results25, asAddr, run_loadVar_row _ _ _ _ _ _ _ HCel.out Try.underlying38 rfl (by kernel_rfl)]) rfl ⟨rfl, HB.out⟩

end Go.Proofs.Ytkecdfhpoeknkaa
