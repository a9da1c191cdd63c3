/- The laws' block, within, awake; equality of blocks. -/
import Derived.Test.YtkecdfhpoeknkaaTfV
import Derived.Test.YtkecdfhpoeknkaaIl
namespace Go.Proofs.Ytkecdfhpoeknkaa
set_option linter.unusedVariables false
set_option linter.unusedSimpArgs false
open Go.RowKit Go.Sort

section
variable {P : Program}
theorem eq_loop (d : Nat) (e : TypeId) (de : TypeDesc) (k : IntKind) (f : Nat → Int) (cs : Array Value) (he : P.underlying e = some (.int k)) (hs : (P.info? e).map (·.size) = some 1) (w : World) :
    ∀ l : List Nat, (∀ i ∈ l, cs[i]? = some (.int .i64 (f i))) →
      (forIn (m := Sem) l ((none, ()) : Option Bool × Unit) fun i r => do
        let x ← part e cs (i * 1)
        let y ← part e cs (i * 1)
        let b ← Op.equalIn (d + 1) e x y
        if (!b) = true then pure (ForInStep.done (some false, ())) else pure (ForInStep.yield (none, ()))).run P w = .ok (none, ()) w := by
  have ha := run_isAgg_of he w
  simp only at ha
  intro l
  induction l with
  | nil => intro _; simp
  | cons i l ih =>
    intro h
    have hi := h i (List.mem_cons_self)
    have hp : (part e cs (i * 1)).run P w = .ok (.int .i64 (f i)) w := by
      rw [Nat.mul_one]
      simp [part, Sem.run_bind, ha, hi]
    simp only [List.forIn_cons, Sem.run_bind, hp, Result.andThen_ok, run_equalIn_int w d e .i64 k (f i) (f i) he, beq_self_eq_true, Bool.not_true, Bool.false_eq_true, if_false, Sem.run_pure]
    exact ih fun j hj => h j (List.mem_cons_of_mem _ hj)
end
theorem blk_same' (d : Nat) (f : Nat → Int) (w : World) : (Op.equalIn (d + 1 + 1) 27 (.agg (blk f)) (.agg (blk f))).run Try.prog w = .ok true w := by
  have h := eq_loop (P := Try.prog) d 3 (.int .i64) .i64 f (blk f) Try.underlying3 (by kernel_rfl) w (List.range' 0 64) (fun i hi => blk_at f i (by simp at hi; omega))
  unfold Op.equalIn
  simp only [Sem.run_bind, run_underlying Try.underlying27 w, Result.andThen_ok, run_sizeOf_of (P := Try.prog) (t := 3) (n := 1) (by kernel_rfl) w]
  rw [Std.Legacy.Range.forIn_eq_forIn_range']
  have h2 := h
  simp only [Std.Legacy.Range.size] at h2 ⊢
  simp only [Nat.sub_zero, Nat.add_sub_cancel, Nat.div_one] at h2 ⊢
  rw [h2]
  simp
theorem blk_same (f : Nat → Int) (w : World) : (Op.equalIn 10000 27 (.agg (blk f)) (.agg (blk f))).run Try.prog w = .ok true w := blk_same' 9998 f w

/-- the transform of a block, and the way back -/
def FW (f : Nat → Int) (n : Nat) : Int := TF.fw (fun k l => f (8 * k + l)) (n / 8) (n % 8)
def IV (y : Nat → Int) (n : Nat) : Int := TF.near (TF.iv (fun i j => cl (y (8 * i + j))) (n / 8) (n % 8))
/-- the elements of a block are from -m to m -/
def wb (f : Nat → Int) (m : Int) : Bool := (List.range 64).all fun n => decide (-m ≤ f n ∧ f n ≤ m)
theorem wb_true {f : Nat → Int} {m : Int} (h : wb f m = true) : ∀ n, n < 64 → -m ≤ f n ∧ f n ≤ m := fun n hn => by
  have := List.all_eq_true.1 h n (List.mem_range.2 hn)
  simpa using this
theorem wb_false {f : Nat → Int} {m : Int} (h : wb f m = false) : ∃ n, n < 64 ∧ ¬ (-m ≤ f n ∧ f n ≤ m) := by
  obtain ⟨n, hn, hb⟩ := List.all_eq_false.1 h
  exact ⟨n, List.mem_range.1 hn, by simpa using hb⟩
theorem wb_of {f : Nat → Int} {m : Int} (h : ∀ n, n < 64 → -m ≤ f n ∧ f n ≤ m) : wb f m = true := List.all_eq_true.2 fun n hn => by simpa using h n (List.mem_range.1 hn)
theorem wb_not {f : Nat → Int} {m : Int} (n : Nat) (hn : n < 64) (h : ¬ (-m ≤ f n ∧ f n ≤ m)) : wb f m = false := List.all_eq_false.2 ⟨n, List.mem_range.2 hn, by simpa using h⟩
theorem FW_most {f : Nat → Int} {B : Int} (hB : 0 ≤ B) (h : ∀ n, n < 64 → -B ≤ f n ∧ f n ≤ B) (n : Nat) (hn : n < 64) : -(4096 * B) ≤ FW f n ∧ FW f n ≤ 4096 * B :=
  TF.fw_most (fun k l => f (8 * k + l)) B hB (fun k hk l hl => h _ (by omega)) (n / 8) (n % 8) (by omega) (by omega)
theorem IV_FW {f : Nat → Int} (h : ∀ n, n < 64 → -255 ≤ f n ∧ f n ≤ 255) : blk (IV (FW f)) = blk f := by
  apply blk_congr
  intro n hn
  unfold IV
  have e1 : TF.iv (fun i j => cl (FW f (8 * i + j))) (n / 8) (n % 8) = TF.iv (TF.fw (fun k l => f (8 * k + l))) (n / 8) (n % 8) := by
    apply TF.iv_congr
    intro i hi j hj
    have hb := FW_most (by decide) h (8 * i + j) (by omega)
    have e2 : FW f (8 * i + j) = TF.fw (fun k l => f (8 * k + l)) i j := by
      unfold FW
      have a1 : (8 * i + j) / 8 = i := by omega
      have a2 : (8 * i + j) % 8 = j := by omega
      rw [a1, a2]
    rw [← e2]
    unfold cl
    omega
  rw [e1, TF.back _ _ _ (by omega) (by omega)]
  have a3 : 8 * (n / 8) + n % 8 = n := by omega
  rw [a3]

section
variable (f : Nat → Int) (w : World)
theorem fwd_in (h : ∀ n, n < 64 → -255 ≤ f n ∧ f n ≤ 255) : Calls Try.prog 17 #[.agg (blk f)] w fun e w' => e = .returned (.tuple #[.agg (blk (FW f)), .int .i64 0]) ∧ Below w.heap.size w w' := cforward_in f h w
theorem fwd_out (h : ∃ n, n < 64 ∧ ¬ (-255 ≤ f n ∧ f n ≤ 255)) : Calls Try.prog 17 #[.agg (blk f)] w fun e w' => e = .returned (.tuple #[.agg (blk fun _ => 0), .int .i64 2]) ∧ Below w.heap.size w w' := cforward_out f h w
theorem rfwd_in (h : ∀ n, n < 64 → -255 ≤ f n ∧ f n ≤ 255) : Calls Try.prog 19 #[.agg (blk f)] w fun e w' => e = .returned (.tuple #[.agg (blk (FW f)), .int .i64 0]) ∧ Below w.heap.size w w' := forward_in f h w
theorem rfwd_out (h : ∃ n, n < 64 ∧ ¬ (-255 ≤ f n ∧ f n ≤ 255)) : Calls Try.prog 19 #[.agg (blk f)] w fun e w' => e = .returned (.tuple #[.agg (blk fun _ => 0), .int .i64 2]) ∧ Below w.heap.size w w' := forward_out f h w
theorem inv_c (h : ∀ n, n < 64 → -9223372036854775808 ≤ f n ∧ f n ≤ 9223372036854775807) : Calls Try.prog 20 #[.agg (blk f)] w fun e w' => e = .returned (.agg (blk (IV f))) ∧ Below w.heap.size w w' := cinverse_c f h w
theorem rinv_c : Calls Try.prog 21 #[.agg (blk f)] w fun e w' => e = .returned (.agg (blk (IV f))) ∧ Below w.heap.size w w' := inverse_c f w
end
end Go.Proofs.Ytkecdfhpoeknkaa
