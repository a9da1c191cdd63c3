/- The code's transformed. -/
import Derived.Test.YtkecdfhpoeknkaaTfP
namespace Go.Proofs.Ytkecdfhpoeknkaa
set_option linter.unusedVariables false
set_option linter.unusedSimpArgs false
open Go.RowKit Go.Sort

theorem load88 {W : World} {g : Nat} {f : Nat → Int} (h : Cel W g 38 (blk f)) (d : Nat) (os : Array Obj) : (loadVar 38 ⟨g, 0, none⟩).run Try.prog (grow (redrawn W d) os) = .ok (.agg (blk f)) (grow (redrawn W d) os) :=
  run_loadVar_row _ _ _ _ _ _ _ (h.below (below_regrown _ _ _)) Try.underlying38 rfl (by rw [blk_size]; kernel_rfl)
theorem load64 {W : World} {g : Nat} {f : Nat → Int} (h : Cel W g 27 (blk f)) (d : Nat) (os : Array Obj) : (loadVar 27 ⟨g, 0, none⟩).run Try.prog (grow (redrawn W d) os) = .ok (.agg (blk f)) (grow (redrawn W d) os) :=
  run_loadVar_row _ _ _ _ _ _ _ (h.below (below_regrown _ _ _)) Try.underlying27 rfl (by rw [blk_size]; kernel_rfl)

/-- a load of a whole variable, in the walk of a region that draws its order -/
theorem lexW_load {P : Program} {W : World} {ops : Array Oper} {Qv : Act → Prop} {a : Act} {o : Oper} {rest : List Oper} (hg : o.guard = none) (ty : TypeId) (x : Operand) (ho : o.op = .load ty x) (A : Addr) (v : Value)
    (hx : a.eval x = .pointer (some A)) (hl : ∀ d os, (loadVar ty A).run P (grow (redrawn W d) os) = .ok v (grow (redrawn W d) os)) (h : lexW P W ops Qv rest (a.put o.dst v)) : lexW P W ops Qv (o :: rest) a := by
  unfold lexW
  have e1 : isMade o = false := by unfold isMade; rw [ho]
  have e2 : keptAt o = none := by unfold keptAt; rw [ho]
  have e3 : Region.wanted o (yielded ops a.tmps) = true := by unfold Region.wanted; rw [hg]
  rw [e1, e2, if_neg (by simp), if_pos e3]
  refine ⟨v, fun p => ?_, h⟩
  unfold growAt execOp
  simp only [ho, hx, Instr.loadAt, Instr.sureAddr, Sem.run_bind, Sem.run_pure, Result.andThen_ok, hl]
  exact ⟨rfl, rfl⟩

set_option maxRecDepth 20000 in
set_option maxHeartbeats 2000000 in
theorem transformed_c (a x : Nat → Int) (H1 : ∀ u, Calls Try.prog 29 #[.agg (blk a), .agg (blk x)] u fun e w' => e = .returned (.agg (blk (tp a x))) ∧ Below u.heap.size u w')
    (H2 : ∀ u, Calls Try.prog 29 #[.agg (blk a), .agg (blk (tp a x))] u fun e w' => e = .returned (.agg (blk (tp a (tp a x)))) ∧ Below u.heap.size u w') (w : World) :
    Calls Try.prog 26 #[.agg (blk a), .agg (blk x)] w fun e w' => e = .returned (.agg (blk (tp a (tp a x)))) ∧ Below w.heap.size w w' := by
  have gA : ∀ o a u v, growAt Try.prog o a u v = growUpon Try.prog u v ((execOp a.eval o).run Try.prog u) := fun _ _ _ _ => rfl
  have gV : ∀ u v x w', growUpon Try.prog u v (.ok (.value x) w') = (w' = u ∧ x = v) := fun _ _ _ _ => rfl
  have gE : ∀ u v g args w', growUpon Try.prog u v (.ok (.enter g args) w') = (w' = u ∧ Calls Try.prog g args u (fun e w'' => e = .returned v ∧ Below u.heap.size u w'')) := fun _ _ _ _ _ => rfl
  have HA0 := Lib.hid (Cel.made w 38 (blk a))
  have HX0 := Lib.hid (Cel.made (w.alloc (Obj.cells (blk a) 38)) 27 (blk x))
  have HH1 := Lib.hid H1
  have HH2 := Lib.hid H2
  clear H1 H2
  go_enter Try.func26, Try.ntmps26
  go_upto_region 1 with fail
  show Code.wp _ _ _ _ (((w.alloc (Obj.cells (blk a) 38)).alloc (Obj.cells (blk x) 27)).alloc (Obj.cells (blk fun _ => 0) 27))
  have hI : Cel (((w.alloc (Obj.cells (blk a) 38)).alloc (Obj.cells (blk x) 27)).alloc (Obj.cells (blk fun _ => 0) 27)) w.heap.size 38 (blk a) ∧ Cel (((w.alloc (Obj.cells (blk a) 38)).alloc (Obj.cells (blk x) 27)).alloc (Obj.cells (blk fun _ => 0) 27)) (w.heap.size + 1) 27 (blk x) ∧ Cel (((w.alloc (Obj.cells (blk a) 38)).alloc (Obj.cells (blk x) 27)).alloc (Obj.cells (blk fun _ => 0) 27)) (w.heap.size + 2) 27 (blk fun _ => 0) ∧ Below w.heap.size w (((w.alloc (Obj.cells (blk a) 38)).alloc (Obj.cells (blk x) 27)).alloc (Obj.cells (blk fun _ => 0) 27)) := by
    have c1 := HX0.out
    have c2 := Cel.made ((w.alloc (Obj.cells (blk a) 38)).alloc (Obj.cells (blk x) 27)) 27 (blk fun _ => 0)
    simp only [World.size_alloc] at c1 c2
    exact ⟨(HA0.out.alloc _).alloc _, c1.alloc _, c2, (((Below.refl _ _).alloc (Nat.le_refl _) _).alloc (by simp only [World.size_alloc]; omega) _).alloc (by simp only [World.size_alloc]; omega) _⟩
  generalize (((w.alloc (Obj.cells (blk a) 38)).alloc (Obj.cells (blk x) 27)).alloc (Obj.cells (blk fun _ => 0) 27)) = W1 at *
  have HI := Lib.hid hI
  clear hI HA0 HX0
  have l1 := load88 HI.out.1
  have l2 := load64 HI.out.2.1
  refine wp_region_grow 5 3 #[.int .i64 0] (fun _ => False) (by kernel_rfl) (by kernel_rfl) (by kernel_rfl) alloc_int (by kernel_rfl) (fun _ _ _ _ _ _ _ _ _ h => h.elim) ?_
  simp only [List.take_succ_cons, List.take_zero]
  refine lexW_load rfl 38 _ rfl _ _ rfl l1 ?_
  refine lexW_load rfl 38 _ rfl _ _ rfl l1 ?_
  refine lexW_load rfl 27 _ rfl _ _ rfl l2 ?_
  refine lexW_step (fun K hK => ?_)
  simp only [isMade, keptAt]
  go_simp
  refine ⟨_, fun p => grow_call _ (HH1.out _) (grow_size _ _), hK _ ?_⟩
  clear hK K
  refine lexW_step (fun K hK => ?_)
  simp only [isMade, keptAt]
  go_simp
  refine ⟨_, fun p => grow_call _ (HH2.out _) (grow_size _ _), hK _ ?_⟩
  clear hK K
  clear l1 l2
  refine lexW_nil (Behind2.behind (ms := []) (ks := []) (mk := fun _ a => a) (by kernel_rfl) (by kernel_rfl) rfl (fun _ _ => by kernel_rfl) ⟨fun _ h => (by cases h), fun _ h => (by cases h), ?_⟩)
  intro β v3 hb3 _ _
  simp only [List.drop_succ_cons, List.drop_zero]
  obtain ⟨-, -, hres0, hB0⟩ := HI.out
  have hres := hres0.below hb3
  have hb := hB0.trans (hb3.mono hB0.size)
  clear HI HH1 HH2 hres0 hB0
  generalize hye : tp a (tp a x) = y at *
  have HYe := Lib.hid hye
  clear hye
  have HRow := Lib.hid (setRow_heap v3 (w.heap.size + 2) _ (blk y) _ _ hres)
  have hW : Below w.heap.size w (v3.setRow (w.heap.size + 2) (blk y)) := by
    refine ⟨hb.os, hb.tape, hb.output, by rw [setRow_size]; exact hb.size, fun j hj => ?_⟩
    rw [setRow_other _ _ _ _ (by omega)]
    exact hb.block j hj
  have HW := Lib.hid hW
  clear hW hb
  refine wpList_store_row rfl 27 _ _ rfl (w.heap.size + 2) (blk y) rfl rfl 27 _ hres (by rw [blk_size]; kernel_rfl) (by simp only [blk_size]) (blk_one _) ?_
  go_wp2_with fail

  refine bodyPost_ret (v := .agg (blk y)) (by simp [results, Act.put, Try.results26, asAddr, run_loadVar_row _ _ _ _ _ _ _ HRow.out Try.underlying27 rfl (by rw [blk_size]; kernel_rfl)]) rfl ⟨by rw [HYe.out], HW.out⟩
end Go.Proofs.Ytkecdfhpoeknkaa
