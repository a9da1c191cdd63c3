/- The law of Back. -/
import Derived.Test.YtkecdfhpoeknkaaTfLF
namespace Go.Proofs.Ytkecdfhpoeknkaa
set_option linter.unusedVariables false
set_option linter.unusedSimpArgs false
open Go.RowKit Go.Sort

set_option maxRecDepth 20000 in
set_option maxHeartbeats 2000000 in
theorem lawBack_c (W : World) (v : Value) (zs : List Int) (h : Il W W.heap.size v zs) :
    Calls Try.prog 6 #[v] W fun e w' => e = .returned (.bool true) ∧ Below W.heap.size W w' := by
  have gA : ∀ o a u v, growAt Try.prog o a u v = growUpon Try.prog u v ((execOp a.eval o).run Try.prog u) := fun _ _ _ _ => rfl
  have gV : ∀ u v x w', growUpon Try.prog u v (.ok (.value x) w') = (w' = u ∧ x = v) := fun _ _ _ _ => rfl
  have gE : ∀ u v g args w', growUpon Try.prog u v (.ok (.enter g args) w') = (w' = u ∧ Calls Try.prog g args u (fun e w'' => e = .returned v ∧ Below u.heap.size u w'')) := fun _ _ _ _ _ => rfl
  have HA := Lib.hid awake_c
  have HBl := Lib.hid (block_c zs v W _ (Nat.le_refl _) h)
  have HWi := Lib.hid (within_c (bz zs) 255 (by decide))
  clear h
  generalize bz zs = f at *
  cases hw : wb f 255 with
  | true =>
    have hin := wb_true hw
    have HF := Lib.hid (fun w => fwd_in f w hin)
    have hi := fun u => inv_c (FW f) u (FW_64 hin)
    rw [IV_FW hin] at hi
    have HInv := Lib.hid hi
    have HWy := Lib.hid (within_c (FW f) 1044480 (by decide))
    have HW1 := Lib.hid (wb_of (f := FW f) (m := 1044480) (fun n hn => by have := FW_most (by decide) hin n hn; omega))
    rw [hw] at HWi
    rw [HW1.out] at HWy
    have HE := Lib.hid (blk_same f)
    clear hin hi hw HW1
    go_enter Try.func6, Try.ntmps6
    go_wp2_with fail
    refine HBl.out.mono ?_
    rintro e w1 ⟨rfl, h1⟩
    have H1 := Lib.hid h1
    clear h1 HBl
    go_upto_region 2 with (refine wpl_store_new rfl 27 _ _ rfl (blk f) 27 _ rfl rfl (by rw [blk_size]; kernel_rfl) (by rw [blk_size]; rfl) (blk_one _) ?_; intro w2 hc hcel hb; have HX2 := Lib.hid hcel; have H2 := Lib.hid (H1.out.trans (hb.mono H1.out.size)); clear hc hcel hb)
    generalize w1.heap.size = G1 at *
    have hX := HX2.out
    go_wp2_with (refine wpList_load_row rfl 27 _ rfl G1 rfl 27 (blk f) (0, 0) _ hX Try.underlying27 rfl (by rw [blk_size]; kernel_rfl) ?_)
    refine (HF.out _).mono ?_
    rintro e w3 ⟨rfl, h3⟩
    have H3 := Lib.hid (H2.out.trans (h3.mono H2.out.size))
    have HX3 := Lib.hid (hX.below h3)
    clear h3 hX HX2 H2
    go_upto_region 3 with (refine wpl_store_new rfl 27 _ _ rfl (blk (FW f)) 27 _ rfl rfl (by rw [blk_size]; kernel_rfl) (by rw [blk_size]; rfl) (blk_one _) ?_; intro w4 hc hcel hb; have HY4 := Lib.hid hcel; have HX4 := Lib.hid (HX3.out.below hb); have H4 := Lib.hid (H3.out.trans (hb.mono H3.out.size)); clear hc hcel hb)
    generalize w3.heap.size = G3 at *
    have hX := HX4.out
    go_wp2_with (refine wpList_load_row rfl 27 _ rfl G1 rfl 27 (blk f) (0, 0) _ hX Try.underlying27 rfl (by rw [blk_size]; kernel_rfl) ?_)
    refine (HWi.out _).mono ?_
    rintro e w5 ⟨rfl, h5⟩
    have H5 := Lib.hid (H4.out.trans (h5.mono H4.out.size))
    have HX5 := Lib.hid (hX.below h5)
    have HY5 := Lib.hid (HY4.out.below h5)
    clear h5 hX HX4 H4 HY4 HX3 H3
    go_upto_region 5 with fail
    have l1 := load64 HX5.out
    have l2 := load64 HY5.out
    have heq := HE.out
    have hgt : Try.prog.eqGuardType Try.prog.depth 27 = false := by kernel_rfl
    refine wp_region_grow 15 3 #[.int .i64 0] (fun _ => False) (by kernel_rfl) (by kernel_rfl) (by kernel_rfl) alloc_int (by kernel_rfl) (fun _ _ _ _ _ _ _ _ _ h => h.elim) ?_
    simp only [List.take_succ_cons, List.take_zero]
    refine lexW_step (fun K hK => ?_)
    simp only [isMade, keptAt]
    go_simp
    refine ⟨_, fun p => grow_call _ (HA.out _) (grow_size _ _), hK _ ?_⟩
    clear hK K
    iterate 5 (refine lexW_step (fun K hK => ?_); simp only [isMade, keptAt]; go_simp; refine hK _ ?_; clear hK K)
    refine lexW_loadg (by rfl) 27 _ rfl _ _ rfl l2 ?_
    refine lexW_step (fun K hK => ?_)
    simp only [isMade, keptAt]
    go_simp
    refine ⟨_, fun p => grow_call _ (HWy.out _) (grow_size _ _), hK _ ?_⟩
    clear hK K
    iterate 2 (refine lexW_step (fun K hK => ?_); simp only [isMade, keptAt]; go_simp; refine hK _ ?_; clear hK K)
    refine lexW_loadg (by rfl) 27 _ rfl _ _ rfl l2 ?_
    refine lexW_step (fun K hK => ?_)
    simp only [isMade, keptAt]
    go_simp
    refine ⟨_, fun p => grow_call _ (HInv.out _) (grow_size _ _), hK _ ?_⟩
    clear hK K
    refine lexW_loadg (by rfl) 27 _ rfl _ _ rfl l1 ?_
    iterate 2 (refine lexW_step (fun K hK => ?_); simp only [isMade, keptAt]; go_simp; refine hK _ ?_; clear hK K)
    clear l1 l2 heq hgt
    refine lexW_nil (Behind2.behind (ms := []) (ks := []) (mk := fun _ a => a) (by kernel_rfl) (by kernel_rfl) rfl (fun _ _ => by kernel_rfl) ⟨fun _ h => (by cases h), fun _ h => (by cases h), ?_⟩)
    intro β v3 hb3 _ _
    simp only [List.drop_succ_cons, List.drop_zero]
    have HB4 := Lib.hid (H5.out.trans (hb3.mono H5.out.size))
    clear hb3
    go_wp2_with fail
    go_ret
    exact ⟨rfl, HB4.out⟩
  | false =>
    have HF := Lib.hid (fun w => fwd_out f w (wb_false hw))
    rw [hw] at HWi
    clear hw
    go_enter Try.func6, Try.ntmps6
    go_wp2_with fail
    refine HBl.out.mono ?_
    rintro e w1 ⟨rfl, h1⟩
    have H1 := Lib.hid h1
    clear h1 HBl
    go_upto_region 2 with (refine wpl_store_new rfl 27 _ _ rfl (blk f) 27 _ rfl rfl (by rw [blk_size]; kernel_rfl) (by rw [blk_size]; rfl) (blk_one _) ?_; intro w2 hc hcel hb; have HX2 := Lib.hid hcel; have H2 := Lib.hid (H1.out.trans (hb.mono H1.out.size)); clear hc hcel hb)
    generalize w1.heap.size = G1 at *
    have hX := HX2.out
    go_wp2_with (refine wpList_load_row rfl 27 _ rfl G1 rfl 27 (blk f) (0, 0) _ hX Try.underlying27 rfl (by rw [blk_size]; kernel_rfl) ?_)
    refine (HF.out _).mono ?_
    rintro e w3 ⟨rfl, h3⟩
    have H3 := Lib.hid (H2.out.trans (h3.mono H2.out.size))
    have HX3 := Lib.hid (hX.below h3)
    clear h3 hX HX2 H2
    go_upto_region 3 with (refine wpl_store_new rfl 27 _ _ rfl (blk fun _ => 0) 27 _ rfl rfl (by rw [blk_size]; kernel_rfl) (by rw [blk_size]; rfl) (blk_one _) ?_; intro w4 hc hcel hb; have HX4 := Lib.hid (HX3.out.below hb); have H4 := Lib.hid (H3.out.trans (hb.mono H3.out.size)); clear hc hcel hb)
    generalize w3.heap.size = G3 at *
    have hX := HX4.out
    go_wp2_with (refine wpList_load_row rfl 27 _ rfl G1 rfl 27 (blk f) (0, 0) _ hX Try.underlying27 rfl (by rw [blk_size]; kernel_rfl) ?_)
    refine (HWi.out _).mono ?_
    rintro e w5 ⟨rfl, h5⟩
    have H5 := Lib.hid (H4.out.trans (h5.mono H4.out.size))
    clear h5 hX HX4 H4 HX3 H3
    go_wp2_with fail
    refine (HA.out _).mono ?_
    rintro e w6 ⟨rfl, h6⟩
    have H6 := Lib.hid (H5.out.trans (h6.mono H5.out.size))
    clear h6
    go_wp2_with fail
    go_ret
    exact ⟨rfl, H6.out⟩
end Go.Proofs.Ytkecdfhpoeknkaa
