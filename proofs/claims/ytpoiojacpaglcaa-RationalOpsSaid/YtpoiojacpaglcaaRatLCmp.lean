/- The law RationalCmp. -/
import Derived.Test.YtpoiojacpaglcaaRatRCmp2
namespace Go.Proofs.Ytpoiojacpaglcaa
set_option linter.unusedVariables false
set_option linter.unusedSimpArgs false
open Go.RowKit Go.Sort
set_option maxHeartbeats 1000000 in
theorem lawCmp_c (a b c d : Int) (ha : -9223372036854775808 ≤ a ∧ a ≤ 9223372036854775807) (hb : -9223372036854775808 ≤ b ∧ b ≤ 9223372036854775807) (hc : -9223372036854775808 ≤ c ∧ c ≤ 9223372036854775807) (hd : -9223372036854775808 ≤ d ∧ d ≤ 9223372036854775807) (w : World) :
    Calls Try.prog 6 #[.agg #[.int .i64 a, .int .i64 b], .agg #[.int .i64 c, .int .i64 d]] w fun e w' => e = .returned (.bool true) ∧ Below w.heap.size w w' := by
  have gA : ∀ o a u v, growAt Try.prog o a u v = growUpon Try.prog u v ((execOp a.eval o).run Try.prog u) := fun _ _ _ _ => rfl
  have gV : ∀ u v x w', growUpon Try.prog u v (.ok (.value x) w') = (w' = u ∧ x = v) := fun _ _ _ _ => rfl
  have gE : ∀ u v g args w', growUpon Try.prog u v (.ok (.enter g args) w') = (w' = u ∧ Calls Try.prog g args u (fun e w'' => e = .returned v ∧ Below u.heap.size u w'')) := fun _ _ _ _ _ => rfl
  have K0 : ((w.alloc (.cells #[.int .i64 a, .int .i64 b] 23)).alloc (.cells #[.int .i64 c, .int .i64 d] 23)).cell? ⟨w.heap.size, 0, none⟩ = some (.int .i64 a) ∧ ((w.alloc (.cells #[.int .i64 a, .int .i64 b] 23)).alloc (.cells #[.int .i64 c, .int .i64 d] 23)).cell? ⟨w.heap.size, 1, none⟩ = some (.int .i64 b)
      ∧ ((w.alloc (.cells #[.int .i64 a, .int .i64 b] 23)).alloc (.cells #[.int .i64 c, .int .i64 d] 23)).cell? ⟨w.heap.size + 1, 0, none⟩ = some (.int .i64 c) ∧ ((w.alloc (.cells #[.int .i64 a, .int .i64 b] 23)).alloc (.cells #[.int .i64 c, .int .i64 d] 23)).cell? ⟨w.heap.size + 1, 1, none⟩ = some (.int .i64 d) := by
    refine ⟨?_, ?_, ?_, ?_⟩ <;> go_simp
  have B0 : Below w.heap.size w ((w.alloc (.cells #[.int .i64 a, .int .i64 b] 23)).alloc (.cells #[.int .i64 c, .int .i64 d] 23)) := ((Below.refl _ _).alloc (Nat.le_refl _) _).alloc (by simp) _
  have HK0 := Lib.hid K0
  have HB0 := Lib.hid B0
  clear K0 B0
  go_enter Try.func6, Try.ntmps6
  go_wp2_with fail
  go_upto_region 1 with fail
  obtain ⟨q0, q1, q2, q3⟩ := HK0.out
  have r0 := cell_regrown q0
  have r1 := cell_regrown q1
  have r2 := cell_regrown q2
  have r3 := cell_regrown q3
  generalize hw0 : (w.alloc (.cells #[.int .i64 a, .int .i64 b] 23)).alloc (.cells #[.int .i64 c, .int .i64 d] 23) = w0 at *
  clear hw0 q0 q1 q2 q3
  refine wp_region_grow 11 50 #[.int .u64 0, .int .u64 0] (fun v => ∃ x y, v = .agg #[.int .u64 x, .int .u64 y]) (by kernel_rfl) (by kernel_rfl) (by kernel_rfl) alloc_wide (by kernel_rfl) store_wide ?_
  simp only [List.take_succ_cons, List.take_zero]
  (repeat' (refine lexW_step (fun K hK => ?_); simp only [isMade, keptAt]; go_simp; first | (refine hK _ ?_; clear hK K) | (refine ⟨_, fun p => grow_call _ (awake_c _) (grow_size _ _), hK _ ?_⟩; clear hK K) | (refine ⟨_, fun p => grow_call _ (Cmp_c _ _ _ _ ha hb hc hd _) (grow_size _ _), hK _ ?_⟩; clear hK K) | (refine ⟨_, fun p => grow_call _ (rcmp_c _ _ _ _ ha hb hc hd _) (grow_size _ _), hK _ ?_⟩; clear hK K)))
  clear r0 r1 r2 r3
  refine lexW_nil (Behind2.behind (ms := []) (ks := []) (tail := []) (mk := fun _ a => a) (by kernel_rfl) (by kernel_rfl) (by kernel_rfl) (fun _ _ => by kernel_rfl) ⟨fun _ h => (by cases h), fun _ h => (by cases h), ?_⟩)
  intro β w3 hb3 _ _
  have HB4 := Lib.hid (HB0.out.trans (hb3.mono HB0.out.size))
  clear hb3
  unfold wpList
  go_wp2_with fail
  go_ret
  exact ⟨rfl, HB4.out⟩
end Go.Proofs.Ytpoiojacpaglcaa
