/- The laws of Forward, Inverse and Clamped. -/
import Derived.Test.YtkecdfhpoeknkaaTfK
namespace Go.Proofs.Ytkecdfhpoeknkaa
set_option linter.unusedVariables false
set_option linter.unusedSimpArgs false
open Go.RowKit Go.Sort

/-- a load of a whole variable behind a guard that is met -/
theorem wpl_load_rowg {P : Program} {ops : Array Oper} {rest : List Oper} {o : Oper} {a : Act} {w : World} {Q : Exit → Act → World → Prop} (hw : Region.wanted o (yielded ops a.tmps) = true) (ty : TypeId) (x : Operand) (ho : o.op = .load ty x)
    (g : Nat) (hx : a.eval x = .pointer (some ⟨g, 0, none⟩)) (t : TypeId) (cs : Array Value) (fr : Nat × Nat) (d : TypeDesc) (hg : w.heap[g]? = some (.cells cs t fr))
    (hu : P.underlying ty = some d) (hd : (match d with | .struct _ | .array _ _ => true | _ => false) = true) (hi : (P.info? ty).map (·.size) = some cs.size)
    (h : wpList P ops Q rest (a.put o.dst (.agg cs)) w) : wpList P ops Q (o :: rest) a w :=
  wpList_step fun K hK => by
    rw [if_pos hw]
    exact wp_load_row ty x ho g hx t cs fr d hg hu hd hi (hK _ _ h)

/-- the code's Forward and the reference's, on every block -/
theorem fwd_both (f : Nat → Int) : ∃ y e, (∀ w, Calls Try.prog 17 #[.agg (blk f)] w fun r w' => r = .returned (.tuple #[.agg (blk y), .int .i64 e]) ∧ Below w.heap.size w w') ∧
    (∀ w, Calls Try.prog 19 #[.agg (blk f)] w fun r w' => r = .returned (.tuple #[.agg (blk y), .int .i64 e]) ∧ Below w.heap.size w w') := by
  cases h : wb f 255 with
  | true => exact ⟨_, _, fun w => fwd_in f w (wb_true h), fun w => rfwd_in f w (wb_true h)⟩
  | false => exact ⟨_, _, fun w => fwd_out f w (wb_false h), fun w => rfwd_out f w (wb_false h)⟩

set_option maxRecDepth 20000 in
set_option maxHeartbeats 2000000 in
theorem lawForward_c (W : World) (v : Value) (zs : List Int) (h : Il W W.heap.size v zs) :
    Calls Try.prog 4 #[v] W fun e w' => e = .returned (.bool true) ∧ Below W.heap.size W w' := by
  have HA := Lib.hid awake_c
  have HI := Lib.hid h
  clear h
  obtain ⟨y, ee, hc, hr⟩ := fwd_both (bz zs)
  have HC := Lib.hid hc
  have HR := Lib.hid hr
  have HE := Lib.hid (blk_same y)
  clear hc hr
  go_enter Try.func4, Try.ntmps4
  go_wp2_with fail
  refine (block_c zs v _ _ (Nat.le_refl _) HI.out).mono ?_
  rintro e w1 ⟨rfl, h1⟩
  have H1 := Lib.hid h1
  clear h1
  go_wp2_with fail
  refine (HC.out _).mono ?_
  rintro e w2 ⟨rfl, h2⟩
  have H2 := Lib.hid (H1.out.trans (h2.mono H1.out.size))
  clear h2
  go_wp2_with (refine wpl_store_new rfl 27 _ _ rfl (blk y) 27 _ rfl rfl (by rw [blk_size]; kernel_rfl) (by rw [blk_size]; rfl) (blk_one _) ?_; intro w3 hc hcel hb; have HY3 := Lib.hid hcel; have H3 := Lib.hid (H2.out.trans (hb.mono H2.out.size)); clear hc hcel hb)
  refine (block_c zs v _ W.heap.size H3.out.size (HI.out.below H3.out)).mono ?_
  rintro e w4 ⟨rfl, h4⟩
  have H4 := Lib.hid (H3.out.trans (h4.mono H3.out.size))
  have HY4 := Lib.hid (HY3.out.below h4)
  clear h4 HY3
  go_wp2_with fail
  refine (HR.out _).mono ?_
  rintro e w5 ⟨rfl, h5⟩
  have H5 := Lib.hid (H4.out.trans (h5.mono H4.out.size))
  have HY5 := Lib.hid (HY4.out.below h5)
  clear h5 HY4
  go_wp2_with (refine wpl_store_new rfl 27 _ _ rfl (blk y) 27 _ rfl rfl (by rw [blk_size]; kernel_rfl) (by rw [blk_size]; rfl) (blk_one _) ?_; intro w6 hc hcel hb; have HZ6 := Lib.hid hcel; have H6 := Lib.hid (H5.out.trans (hb.mono H5.out.size)); have HY6 := Lib.hid (HY5.out.below hb); clear hc hcel hb)
  generalize w2.heap.size = G2 at *
  generalize w5.heap.size = G5 at *
  refine (HA.out _).mono ?_
  rintro e w7 ⟨rfl, h7⟩
  have H7 := Lib.hid (H6.out.trans (h7.mono H6.out.size))
  have hY := HY6.out.below h7
  have hZ := HZ6.out.below h7
  have heq := HE.out
  have hgt : Try.prog.eqGuardType Try.prog.depth 27 = false := by kernel_rfl
  clear h7 HY6 HZ6
  go_wp2_with (first | (refine wpl_load_rowg (by rfl) 27 _ rfl G2 rfl 27 (blk y) (0, 0) _ hY Try.underlying27 rfl (by rw [blk_size]; kernel_rfl) ?_) | (refine wpl_load_rowg (by rfl) 27 _ rfl G5 rfl 27 (blk y) (0, 0) _ hZ Try.underlying27 rfl (by rw [blk_size]; kernel_rfl) ?_))
  go_ret
  exact ⟨rfl, H7.out⟩

set_option maxRecDepth 20000 in
set_option maxHeartbeats 2000000 in
theorem lawInverse_c (W : World) (v : Value) (zs : List Int) (h : Il W W.heap.size v zs) :
    Calls Try.prog 5 #[v] W fun e w' => e = .returned (.bool true) ∧ Below W.heap.size W w' := by
  have HA := Lib.hid awake_c
  have HI := Lib.hid h
  have HC := Lib.hid (fun w => inv_c (bz zs) w (fun n _ => bz_bd h.1 n))
  have HR := Lib.hid (rinv_c (bz zs))
  have HE := Lib.hid (blk_same (IV (bz zs)))
  clear h
  go_enter Try.func5, Try.ntmps5
  go_wp2_with fail
  refine (HA.out _).mono ?_
  rintro e w1 ⟨rfl, h1⟩
  have H1 := Lib.hid h1
  clear h1
  go_wp2_with fail
  refine (block_c zs v _ W.heap.size H1.out.size (HI.out.below H1.out)).mono ?_
  rintro e w2 ⟨rfl, h2⟩
  have H2 := Lib.hid (H1.out.trans (h2.mono H1.out.size))
  clear h2
  go_wp2_with fail
  refine (HC.out _).mono ?_
  rintro e w3 ⟨rfl, h3⟩
  have H3 := Lib.hid (H2.out.trans (h3.mono H2.out.size))
  clear h3
  go_wp2_with fail
  refine (block_c zs v _ W.heap.size H3.out.size (HI.out.below H3.out)).mono ?_
  rintro e w4 ⟨rfl, h4⟩
  have H4 := Lib.hid (H3.out.trans (h4.mono H3.out.size))
  clear h4
  go_wp2_with fail
  refine (HR.out _).mono ?_
  rintro e w5 ⟨rfl, h5⟩
  have H5 := Lib.hid (H4.out.trans (h5.mono H4.out.size))
  have heq := HE.out
  have hgt : Try.prog.eqGuardType Try.prog.depth 27 = false := by kernel_rfl
  clear h5
  go_wp2_with fail
  go_ret
  exact ⟨rfl, H5.out⟩

theorem cl_cl (v : Int) : cl (cl v) = cl v := by unfold cl; omega
theorem IV_cl (f : Nat → Int) : blk (IV fun n => cl (f n)) = blk (IV f) := by
  apply blk_congr
  intro n hn
  unfold IV
  simp only [cl_cl]

set_option maxRecDepth 20000 in
set_option maxHeartbeats 2000000 in
theorem lawClamped_c (W : World) (v : Value) (zs : List Int) (h : Il W W.heap.size v zs) :
    Calls Try.prog 10 #[v] W fun e w' => e = .returned (.bool true) ∧ Below W.heap.size W w' := by
  have gA : ∀ o a u v, growAt Try.prog o a u v = growUpon Try.prog u v ((execOp a.eval o).run Try.prog u) := fun _ _ _ _ => rfl
  have gV : ∀ u v x w', growUpon Try.prog u v (.ok (.value x) w') = (w' = u ∧ x = v) := fun _ _ _ _ => rfl
  have gE : ∀ u v g args w', growUpon Try.prog u v (.ok (.enter g args) w') = (w' = u ∧ Calls Try.prog g args u (fun e w'' => e = .returned v ∧ Below u.heap.size u w'')) := fun _ _ _ _ _ => rfl
  have HA := Lib.hid awake_c
  have HI := Lib.hid h
  have HC := Lib.hid (fun w => inv_c (bz zs) w (fun n _ => bz_bd h.1 n))
  have hD := fun w => inv_c (fun n => cl (bz zs n)) w (fun n _ => by have := cl_bd (bz zs n); omega)
  rw [IV_cl] at hD
  have HD := Lib.hid hD
  have HCl := Lib.hid clamp_c
  have HE := Lib.hid (blk_same (IV (bz zs)))
  have HBl := Lib.hid (block_c zs v W _ (Nat.le_refl _) h)
  clear h hD
  generalize bz zs = f at *
  go_enter Try.func10, Try.ntmps10
  go_wp2_with fail
  refine HBl.out.mono ?_
  rintro e w1 ⟨rfl, h1⟩
  have H1 := Lib.hid h1
  clear h1 HBl
  go_upto_region 2 with (refine wpl_store_new rfl 27 _ _ rfl (blk f) 27 _ rfl rfl (by rw [blk_size]; kernel_rfl) (by rw [blk_size]; rfl) (blk_one _) ?_; intro w2 hc hcel hb; have HY2 := Lib.hid hcel; have H2 := Lib.hid (H1.out.trans (hb.mono H1.out.size)); clear hc hcel hb)
  have hG1 := H1.out.size
  generalize w1.heap.size = G1 at *
  have hY := HY2.out
  go_wp2_with (first | (refine wpList_load_row rfl 27 _ rfl G1 rfl 27 (blk f) (0, 0) _ hY Try.underlying27 rfl (by rw [blk_size]; kernel_rfl) ?_) | (refine wpl_store_new rfl 27 _ _ rfl (blk f) 27 _ rfl rfl (by rw [blk_size]; kernel_rfl) (by rw [blk_size]; rfl) (blk_one _) ?_; intro w3 hc hcel hb; have HJ := Lib.hid (show Cel w3 G1 27 (blk f) ∧ Cel w3 w2.heap.size 27 (blk f) ∧ Below W.heap.size W w3 from ⟨HY2.out.below hb, hcel, H2.out.trans (hb.mono H2.out.size)⟩); clear hc hcel hb))
  have hlt12 := HY2.out.lt
  have hsz2 := H2.out.size
  generalize w2.heap.size = G2 at *
  clear HY2 H2 hY H1
  have HJ0 := HJ
  clear HJ
  go_loopw [5] (fun a v => ∃ n : Nat, n ≤ 64 ∧ a = .int .i64 (n : Int) ∧ Cel v G1 27 (blk f) ∧ Cel v G2 27 (blk (pm (fun n => cl (f n)) f n)) ∧ Below W.heap.size W v) (fun a _ => 64 - (intOf a).toNat)
  case atStart => exact ⟨0, by decide, rfl, HJ0.out.1, by rw [pm_zero]; exact HJ0.out.2.1, HJ0.out.2.2⟩
  case round =>
    obtain ⟨n, hn, rfl, hJ⟩ := hrel
    have HJ := Lib.hid hJ
    clear hJ
    by_cases hlt : n < 64
    · have d1 : decide ((n : Int) < 64) = true := by simp; omega
      have c1 := (HJ.out.1.cell n).trans (blk_at _ n hlt)
      have c2 := (HJ.out.2.1.cell n).trans (blk_at _ n hlt)
      have f2 := HJ.out.2.1.free n
      have hset := HJ.out.2.1.store n (.int .i64 (cl (f n)))
      rw [blk_set, pm_up (fun n => cl (f n)) f n] at hset
      have HSet := Lib.hid (show Cel (wr.setCell ⟨G2, n, none⟩ (.int .i64 (cl (f n)))) G1 27 (blk f) ∧ Cel (wr.setCell ⟨G2, n, none⟩ (.int .i64 (cl (f n)))) G2 27 (blk (pm (fun n => cl (f n)) f (n + 1))) ∧ Below W.heap.size W (wr.setCell ⟨G2, n, none⟩ (.int .i64 (cl (f n)))) from
        ⟨HJ.out.1.far (by show G1 ≠ G2; omega) _, hset, HJ.out.2.2.setCell (by show W.heap.size ≤ G2; omega) _⟩)
      clear hset
      go_wp2_with fail
      refine (HCl.out _ _).mono ?_
      rintro e _ ⟨rfl, rfl⟩
      go_wp2_with fail
      go_roundw
      case rel => exact ⟨n + 1, by omega, congrArg (Value.int .i64) (by omega), HSet.out⟩
      case measure => simp [intOf]; omega
    · have e : n = 64 := by omega
      subst e
      have hJ := HJ.out
      rw [pm_all] at hJ
      have HJ2 := Lib.hid hJ
      clear hJ HJ HJ0
      go_upto_region 7 with fail
      have l1 := load64 HJ2.out.1
      have l2 := load64 HJ2.out.2.1
      have heq := HE.out
      have hgt : Try.prog.eqGuardType Try.prog.depth 27 = false := by kernel_rfl
      refine wp_region_grow 8 3 #[.int .i64 0] (fun _ => False) (by kernel_rfl) (by kernel_rfl) (by kernel_rfl) alloc_int (by kernel_rfl) (fun _ _ _ _ _ _ _ _ _ h => h.elim) ?_
      simp only [List.take_succ_cons, List.take_zero]
      refine lexW_step (fun K hK => ?_)
      simp only [isMade, keptAt]
      go_simp
      refine ⟨_, fun p => grow_call _ (HA.out _) (grow_size _ _), hK _ ?_⟩
      clear hK K
      refine lexW_step (fun K hK => ?_)
      simp only [isMade, keptAt]
      go_simp
      refine hK _ ?_
      clear hK K
      refine lexW_loadg (by rfl) 27 _ rfl _ _ rfl l1 ?_
      refine lexW_step (fun K hK => ?_)
      simp only [isMade, keptAt]
      go_simp
      refine ⟨_, fun p => grow_call _ (HC.out _) (grow_size _ _), hK _ ?_⟩
      clear hK K
      refine lexW_loadg (by rfl) 27 _ rfl _ _ rfl l2 ?_
      refine lexW_step (fun K hK => ?_)
      simp only [isMade, keptAt]
      go_simp
      refine ⟨_, fun p => grow_call _ (HD.out _) (grow_size _ _), hK _ ?_⟩
      clear hK K
      iterate 2 (refine lexW_step (fun K hK => ?_); simp only [isMade, keptAt]; go_simp; refine hK _ ?_; clear hK K)
      clear l1 l2 heq hgt
      refine lexW_nil (Behind2.behind (ms := []) (ks := []) (mk := fun _ a => a) (by kernel_rfl) (by kernel_rfl) rfl (fun _ _ => by kernel_rfl) ⟨fun _ h => (by cases h), fun _ h => (by cases h), ?_⟩)
      intro β v3 hb3 _ _
      simp only [List.drop_succ_cons, List.drop_zero]
      have HB4 := Lib.hid (HJ2.out.2.2.trans (hb3.mono HJ2.out.2.2.size))
      clear hb3
      go_wp2_with fail
      go_ret
      exact ⟨rfl, HB4.out⟩
end Go.Proofs.Ytkecdfhpoeknkaa
