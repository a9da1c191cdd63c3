/- The laws' awake. -/
import Derived.Test.YtkecdfhpoeknkaaTfO
namespace Go.Proofs.Ytkecdfhpoeknkaa
set_option linter.unusedVariables false
set_option linter.unusedSimpArgs false
open Go.RowKit Go.Sort

/-- a load of a whole variable, in the walk of a region that draws its order, behind a guard that is met -/
theorem lexW_loadg {P : Program} {W : World} {ops : Array Oper} {Qv : Act → Prop} {a : Act} {o : Oper} {rest : List Oper} (hw : Region.wanted o (yielded ops a.tmps) = true) (ty : TypeId) (x : Operand) (ho : o.op = .load ty x) (A : Addr) (v : Value)
    (hx : a.eval x = .pointer (some A)) (hl : ∀ d os, (loadVar ty A).run P (grow (redrawn W d) os) = .ok v (grow (redrawn W d) os)) (h : lexW P W ops Qv rest (a.put o.dst v)) : lexW P W ops Qv (o :: rest) a := by
  unfold lexW
  have e1 : isMade o = false := by unfold isMade; rw [ho]
  have e2 : keptAt o = none := by unfold keptAt; rw [ho]
  rw [e1, e2, if_neg (by simp), if_pos hw]
  refine ⟨v, fun p => ?_, h⟩
  unfold growAt execOp
  simp only [ho, hx, Instr.loadAt, Instr.sureAddr, Sem.run_bind, Sem.run_pure, Result.andThen_ok, hl]
  exact ⟨rfl, rfl⟩
/-- a call whose contract says what it answers, in such a walk -/
theorem lexW_callg {P : Program} {W : World} {ops : Array Oper} {Qv : Act → Prop} {a : Act} {o : Oper} {rest : List Oper} (hw : Region.wanted o (yielded ops a.tmps) = true) (v : Value) (he : (isMade o || (keptAt o).isSome) = false)
    (hl : ∀ u, growAt P o a u v) (h : lexW P W ops Qv rest (a.put o.dst v)) : lexW P W ops Qv (o :: rest) a := by
  unfold lexW
  rw [he, if_neg (by simp), if_pos hw]
  exact ⟨v, fun p => hl _, h⟩

def one64 : Nat → Int := fun _ => 1
theorem one_bd (n : Nat) (_ : n < 64) : -255 ≤ one64 n ∧ one64 n ≤ 255 := by unfold one64; decide
theorem one_0 : FW one64 0 = 4096 := by decide +kernel
theorem one_1 : FW one64 1 = 0 := by decide +kernel
theorem FW_64 {f : Nat → Int} (h : ∀ n, n < 64 → -255 ≤ f n ∧ f n ≤ 255) (n : Nat) (hn : n < 64) : -9223372036854775808 ≤ FW f n ∧ FW f n ≤ 9223372036854775807 := by
  have := FW_most (by decide) h n hn
  omega

set_option maxRecDepth 20000 in
set_option maxHeartbeats 2000000 in
theorem awake_c (w : World) : Calls Try.prog 16 #[] w fun e w' => e = .returned (.bool true) ∧ Below w.heap.size w w' := by
  have gA : ∀ o a u v, growAt Try.prog o a u v = growUpon Try.prog u v ((execOp a.eval o).run Try.prog u) := fun _ _ _ _ => rfl
  have gV : ∀ u v x w', growUpon Try.prog u v (.ok (.value x) w') = (w' = u ∧ x = v) := fun _ _ _ _ => rfl
  have gE : ∀ u v g args w', growUpon Try.prog u v (.ok (.enter g args) w') = (w' = u ∧ Calls Try.prog g args u (fun e w'' => e = .returned v ∧ Below u.heap.size u w'')) := fun _ _ _ _ _ => rfl
  have HX0 := Lib.hid (Cel.made w 27 (blk fun _ => 0))
  have hB0 : Below w.heap.size w (w.alloc (Obj.cells (blk fun _ => 0) 27)) := (Below.refl _ _).alloc (Nat.le_refl _) _
  have HB0 := Lib.hid hB0
  clear hB0
  go_enter Try.func16, Try.ntmps16
  go_upto_region 2 with fail
  show Code.wp _ _ _ _ (w.alloc (Obj.cells (blk fun _ => 0) 27))
  generalize (w.alloc (Obj.cells (blk fun _ => 0) 27)) = W1 at *
  go_wp2_with fail
  go_loopw [2] (fun a v => ∃ n : Nat, n ≤ 64 ∧ a = .int .i64 (n : Int) ∧ Cel v w.heap.size 27 (blk (xt one64 n)) ∧ Below w.heap.size w v) (fun a _ => 64 - (intOf a).toNat)
  case atStart => exact ⟨0, by decide, rfl, by rw [xt_zero]; exact HX0.out, HB0.out⟩
  case round =>
    obtain ⟨n, hn, rfl, hc, hb⟩ := hrel
    have HC := Lib.hid hc
    have HB := Lib.hid hb
    clear hc hb
    by_cases hlt : n < 64
    · have d1 : decide ((n : Int) < 64) = true := by simp; omega
      have c2 := (HC.out.cell n).trans (blk_at _ n hlt)
      have f2 := HC.out.free n
      have hset := HC.out.store n (.int .i64 1)
      rw [blk_set, show up (xt one64 n) n 1 = xt one64 (n + 1) from xt_up one64 n] at hset
      have HSet := Lib.hid hset
      have HB2 := Lib.hid (HB.out.setCell (p := ⟨w.heap.size, n, none⟩) (by show w.heap.size ≤ w.heap.size; omega) (.int .i64 1))
      clear hset
      go_wp2_with fail
      go_roundw
      case rel => exact ⟨n + 1, by omega, congrArg (Value.int .i64) (by omega), HSet.out, HB2.out⟩
      case measure => simp [intOf]; omega
    · have e : n = 64 := by omega
      subst e
      have hC := HC.out
      have hx1 : blk (xt one64 64) = blk one64 := blk_congr fun m hm => by unfold xt; rw [if_pos hm]
      rw [hx1] at hC
      clear HC hx1
      go_wp2_with (first | (refine wpList_load_row rfl 27 _ rfl w.heap.size rfl 27 (blk one64) (0, 0) _ hC Try.underlying27 rfl (by rw [blk_size]; kernel_rfl) ?_))
      refine (fwd_in one64 _ one_bd).mono ?_
      rintro e w2 ⟨rfl, hb2⟩
      have HC2 := Lib.hid (hC.below hb2)
      have HB2 := Lib.hid (HB.out.trans (hb2.mono HB.out.size))
      clear hC hb2 HB
      go_wp2_with (refine wpl_store_new rfl 27 _ _ rfl (blk (FW one64)) 27 _ rfl rfl (by rw [blk_size]; kernel_rfl) (by rw [blk_size]; rfl) (blk_one _) ?_; intro w3 hc hcel hb; have HC3 := Lib.hid (HC2.out.below hb); have HB3 := Lib.hid (HB2.out.trans (hb.mono HB2.out.size)); have HY3 := Lib.hid hcel; clear hc hcel hb)
      have q0 : World.cell? w3 ⟨w2.heap.size, 0, none⟩ = some (.int .i64 4096) := by rw [HY3.out.cell, blk_at _ _ (by decide), one_0]
      have q1 : World.cell? w3 ⟨w2.heap.size, 1, none⟩ = some (.int .i64 0) := by rw [HY3.out.cell, blk_at _ _ (by decide), one_1]
      have r0 := cell_regrown q0
      have r1 := cell_regrown q1
      have l1 := load64 HY3.out
      have l2 := load64 HC3.out
      have hi := fun u => inv_c (FW one64) u (FW_64 one_bd)
      rw [IV_FW one_bd] at hi
      have HInv := Lib.hid hi
      have heq := blk_same one64
      have hgt : Try.prog.eqGuardType Try.prog.depth 27 = false := by kernel_rfl
      clear q0 q1 hi
      refine wp_region_grow 18 3 #[.int .i64 0] (fun _ => False) (by kernel_rfl) (by kernel_rfl) (by kernel_rfl) alloc_int (by kernel_rfl) (fun _ _ _ _ _ _ _ _ _ h => h.elim) ?_
      simp only [List.take_succ_cons, List.take_zero]
      iterate 13 (refine lexW_step (fun K hK => ?_); simp only [isMade, keptAt]; go_simp; refine hK _ ?_; clear hK K)
      clear r0 r1
      refine lexW_loadg (by rfl) 27 _ rfl _ _ rfl l1 ?_
      refine lexW_step (fun K hK => ?_)
      simp only [isMade, keptAt]
      go_simp
      refine ⟨_, fun p => grow_call _ (HInv.out _) (grow_size _ _), hK _ ?_⟩
      clear hK K
      refine lexW_loadg (by rfl) 27 _ rfl _ _ rfl l2 ?_
      refine lexW_step (fun K hK => ?_)
      simp only [isMade, keptAt]
      go_simp
      refine hK _ ?_
      clear hK K
      refine lexW_step (fun K hK => ?_)
      simp only [isMade, keptAt]
      go_simp
      refine hK _ ?_
      clear hK K l1 l2 heq hgt
      refine lexW_nil (Behind2.behind (ms := []) (ks := []) (mk := fun _ a => a) (by kernel_rfl) (by kernel_rfl) rfl (fun _ _ => by kernel_rfl) ⟨fun _ h => (by cases h), fun _ h => (by cases h), ?_⟩)
      intro β v3 hb3 _ _
      simp only [List.drop_succ_cons, List.drop_zero]
      have HB4 := Lib.hid (HB3.out.trans (hb3.mono HB3.out.size))
      clear hb3
      go_wp2_with fail
      go_ret
      exact ⟨rfl, HB4.out⟩
end Go.Proofs.Ytkecdfhpoeknkaa
