/- The code's Forward. -/
import Derived.Test.YtkecdfhpoeknkaaTfQ
import Derived.Test.YtkecdfhpoeknkaaTfG
namespace Go.Proofs.Ytkecdfhpoeknkaa
set_option linter.unusedVariables false
set_option linter.unusedSimpArgs false
open Go.RowKit Go.Sort

theorem tp_bd (a x : Nat → Int) (C : Int) (hC : ∀ n m, n < 64 → m < 64 → -C ≤ a n * x m ∧ a n * x m ≤ C) (n : Nat) (hn : n < 64) : -(8 * C) ≤ tp a x n ∧ tp a x n ≤ 8 * C := by
  have u := TF.s8_le (f := fun k => a (8 * (n % 8) + k) * x (8 * k + n / 8)) (g := fun _ => C) (fun k hk => (hC (8 * (n % 8) + k) (8 * k + n / 8) (by omega) (by omega)).2)
  have l := TF.s8_le (f := fun _ => -C) (g := fun k => a (8 * (n % 8) + k) * x (8 * k + n / 8)) (fun k hk => (hC (8 * (n % 8) + k) (8 * k + n / 8) (by omega) (by omega)).1)
  have e1 : TF.s8 (fun _ => C) = 8 * C := by simp only [TF.s8]; omega
  have e2 : TF.s8 (fun _ => -C) = -(8 * C) := by simp only [TF.s8]; omega
  rw [e1] at u
  rw [e2] at l
  exact ⟨l, u⟩
theorem tp_fw (f : Nat → Int) (n : Nat) (hn : n < 64) : tp tb (tp tb f) n = TF.fw (fun k l => f (8 * k + l)) (n / 8) (n % 8) := by
  rw [TF.fw_swap]
  unfold tp
  apply TF.s8_congr
  intro l hl
  rw [tb_at (n % 8) l hl]
  congr 1
  apply TF.s8_congr
  intro k hk
  have a1 : (8 * l + n / 8) / 8 = l := by omega
  have a2 : (8 * l + n / 8) % 8 = n / 8 := by omega
  rw [a1, a2, tb_at (n / 8) k hk]
theorem tb_bd (n : Nat) : -12 ≤ tb n ∧ tb n ≤ 12 := tm_any _ _
/-- the transform of a block of samples, by the code's transformed -/
theorem trans_fw (f : Nat → Int) (h : ∀ n, n < 64 → -255 ≤ f n ∧ f n ≤ 255) (u : World) :
    Calls Try.prog 26 #[.agg (blk tb), .agg (blk f)] u fun e w' => e = .returned (.agg (blk fun n => TF.fw (fun k l => f (8 * k + l)) (n / 8) (n % 8))) ∧ Below u.heap.size u w' := by
  have c1 : ∀ n m, n < 64 → m < 64 → -3060 ≤ tb n * f m ∧ tb n * f m ≤ 3060 := fun n m _ hm => prod_bd _ _ 255 (tb_bd n) (h m hm)
  have b1 := tp_bd tb f 3060 c1
  have c2 : ∀ n m, n < 64 → m < 64 → -293760 ≤ tb n * tp tb f m ∧ tb n * tp tb f m ≤ 293760 := fun n m _ hm => prod_bd _ _ 24480 (tb_bd n) (b1 m hm)
  have e : blk (fun n => TF.fw (fun k l => f (8 * k + l)) (n / 8) (n % 8)) = blk (tp tb (tp tb f)) := blk_congr fun n hn => (tp_fw f n hn).symm
  rw [e]
  exact transformed_c tb f (turned_c tb f 3060 c1 (by decide) (fun n hn => by have := h n hn; omega)) (turned_c tb (tp tb f) 293760 c2 (by decide) (fun n hn => by have := b1 n hn; omega)) u

set_option maxRecDepth 20000 in
set_option maxHeartbeats 2000000 in
theorem cforward_in (f : Nat → Int) (h : ∀ n, n < 64 → -255 ≤ f n ∧ f n ≤ 255) (w : World) :
    Calls Try.prog 17 #[.agg (blk f)] w fun e w' => e = .returned (.tuple #[.agg (blk fun n => TF.fw (fun k l => f (8 * k + l)) (n / 8) (n % 8)), .int .i64 0]) ∧ Below w.heap.size w w' := by
  have gA : ∀ o a u v, growAt Try.prog o a u v = growUpon Try.prog u v ((execOp a.eval o).run Try.prog u) := fun _ _ _ _ => rfl
  have gV : ∀ u v x w', growUpon Try.prog u v (.ok (.value x) w') = (w' = u ∧ x = v) := fun _ _ _ _ => rfl
  have gE : ∀ u v g args w', growUpon Try.prog u v (.ok (.enter g args) w') = (w' = u ∧ Calls Try.prog g args u (fun e w'' => e = .returned v ∧ Below u.heap.size u w'')) := fun _ _ _ _ _ => rfl
  have HX0 := Lib.hid (Cel.made w 27 (blk f))
  have HH := Lib.hid h
  have HT := Lib.hid (trans_fw f h)
  have HM := Lib.hid matrix_c
  have HIx := Lib.hid (idx64 f)
  clear h
  go_enter Try.func17, Try.ntmps17
  go_upto_region 1 with fail
  show Code.wp _ _ _ _ ((w.alloc (Obj.cells (blk f) 27)).alloc (Obj.cells (blk fun _ => 0) 27))
  have hX1 : Cel ((w.alloc (Obj.cells (blk f) 27)).alloc (Obj.cells (blk fun _ => 0) 27)) w.heap.size 27 (blk f) := HX0.out.alloc _
  have hR1 : Cel ((w.alloc (Obj.cells (blk f) 27)).alloc (Obj.cells (blk fun _ => 0) 27)) (w.heap.size + 1) 27 (blk fun _ => 0) := by
    have := Cel.made (w.alloc (Obj.cells (blk f) 27)) 27 (blk fun _ => 0)
    rwa [World.size_alloc] at this
  have hB1 : Below w.heap.size w ((w.alloc (Obj.cells (blk f) 27)).alloc (Obj.cells (blk fun _ => 0) 27)) := ((Below.refl _ _).alloc (Nat.le_refl _) _).alloc (by rw [World.size_alloc]; omega) _
  generalize ((w.alloc (Obj.cells (blk f) 27)).alloc (Obj.cells (blk fun _ => 0) 27)) = W1 at *
  clear HX0
  have HX1 := Lib.hid hX1
  have HR1 := Lib.hid hR1
  have HB1 := Lib.hid hB1
  clear hR1 hB1
  go_wp2_with (refine wpList_load_row rfl 27 _ rfl w.heap.size rfl 27 (blk f) (0, 0) _ hX1 Try.underlying27 rfl (by rw [blk_size]; kernel_rfl) ?_)
  clear hX1
  go_loopw [3, 7] (fun c a wr => ∃ n : Nat, n ≤ 64 ∧ c = .int .i64 0 ∧ a = .int .i64 (n : Int) ∧ wr = W1) (fun _ a _ => 64 - (intOf a).toNat)
  case atStart => exact ⟨0, by decide, rfl, rfl, rfl⟩
  case round =>
    obtain ⟨n, hn, rfl, rfl, rfl⟩ := hrel
    by_cases hlt : n < 64
    · obtain ⟨b1, b2⟩ := HH.out n hlt
      have d1 : decide ((n : Int) < 64) = true := by simp; omega
      have i1 := HIx.out n hlt
      have d2 : decide (f n < -255) = false := by simp; omega
      have d3 : decide (255 < f n) = false := by simp; omega
      generalize f n = v at *
      go_wp2_with fail
      go_roundw
      case rel => exact ⟨n + 1, by omega, rfl, congrArg (Value.int .i64) (by omega), by trivial⟩
      case measure => simp [intOf]; omega
    · have e : n = 64 := by omega
      subst e
      clear hn hlt HIx
      go_upto_region 7 with fail
      have l1 := load64 HX1.out
      refine wp_region_grow 3 3 #[.int .i64 0] (fun _ => False) (by kernel_rfl) (by kernel_rfl) (by kernel_rfl) alloc_int (by kernel_rfl) (fun _ _ _ _ _ _ _ _ _ h => h.elim) ?_
      simp only [List.take_succ_cons, List.take_zero]
      refine lexW_step (fun K hK => ?_)
      simp only [isMade, keptAt]
      go_simp
      refine ⟨_, fun p => grow_call _ (HM.out _) (grow_size _ _), hK _ ?_⟩
      clear hK K
      refine lexW_load rfl 27 _ rfl _ _ rfl l1 ?_
      clear l1
      refine lexW_step (fun K hK => ?_)
      simp only [isMade, keptAt]
      go_simp
      refine ⟨_, fun p => grow_call _ (HT.out _) (grow_size _ _), hK _ ?_⟩
      clear hK K
      refine lexW_nil (Behind2.behind (ms := []) (ks := []) (mk := fun _ a => a) (by kernel_rfl) (by kernel_rfl) rfl (fun _ _ => by kernel_rfl) ⟨fun _ h => (by cases h), fun _ h => (by cases h), ?_⟩)
      intro β v3 hb3 _ _
      simp only [List.drop_succ_cons, List.drop_zero]
      have hres := HR1.out.below hb3
      have hb := HB1.out.trans (hb3.mono HB1.out.size)
      clear HX1 HR1 HB1 HH HT HM
      generalize hye : (fun n => TF.fw (fun k l => f (8 * k + l)) (n / 8) (n % 8)) = y at *
      have HYe := Lib.hid hye
      clear hye
      have HRow := Lib.hid (setRow_heap v3 (w.heap.size + 1) _ (blk y) _ _ hres)
      have hW : Below w.heap.size w (v3.setRow (w.heap.size + 1) (blk y)) := by
        refine ⟨hb.os, hb.tape, hb.output, by rw [setRow_size]; exact hb.size, fun j hj => ?_⟩
        rw [setRow_other _ _ _ _ (by omega)]
        exact hb.block j hj
      have HW := Lib.hid hW
      clear hW hb
      refine wpList_store_row rfl 27 _ _ rfl (w.heap.size + 1) (blk y) rfl rfl 27 _ hres (by rw [blk_size]; kernel_rfl) (by simp only [blk_size]) (blk_one _) ?_
      clear hres hb3
      go_wp2_with fail
      refine bodyPost_ret (v := .tuple #[.agg (blk y), .int .i64 0]) (by simp [results, Act.put, Try.results17, asAddr, run_loadVar_row _ _ _ _ _ _ _ HRow.out Try.underlying27 rfl (by rw [blk_size]; kernel_rfl)]) rfl ⟨by rw [HYe.out], HW.out⟩

set_option maxRecDepth 20000 in
set_option maxHeartbeats 2000000 in
theorem cforward_out (f : Nat → Int) (h : ∃ n, n < 64 ∧ ¬ (-255 ≤ f n ∧ f n ≤ 255)) (w : World) :
    Calls Try.prog 17 #[.agg (blk f)] w fun e w' => e = .returned (.tuple #[.agg (blk fun _ => 0), .int .i64 2]) ∧ Below w.heap.size w w' := by
  have HX0 := Lib.hid (Cel.made w 27 (blk f))
  have HH := Lib.hid h
  have HIx := Lib.hid (idx64 f)
  clear h
  go_enter Try.func17, Try.ntmps17
  go_upto_region 1 with fail
  show Code.wp _ _ _ _ ((w.alloc (Obj.cells (blk f) 27)).alloc (Obj.cells (blk fun _ => 0) 27))
  have hX1 : Cel ((w.alloc (Obj.cells (blk f) 27)).alloc (Obj.cells (blk fun _ => 0) 27)) w.heap.size 27 (blk f) := HX0.out.alloc _
  have hR1 : Cel ((w.alloc (Obj.cells (blk f) 27)).alloc (Obj.cells (blk fun _ => 0) 27)) (w.heap.size + 1) 27 (blk fun _ => 0) := by
    have := Cel.made (w.alloc (Obj.cells (blk f) 27)) 27 (blk fun _ => 0)
    rwa [World.size_alloc] at this
  have hB1 : Below w.heap.size w ((w.alloc (Obj.cells (blk f) 27)).alloc (Obj.cells (blk fun _ => 0) 27)) := ((Below.refl _ _).alloc (Nat.le_refl _) _).alloc (by rw [World.size_alloc]; omega) _
  generalize ((w.alloc (Obj.cells (blk f) 27)).alloc (Obj.cells (blk fun _ => 0) 27)) = W1 at *
  clear HX0
  have HR1 := Lib.hid hR1
  have HB1 := Lib.hid hB1
  clear hR1 hB1
  go_wp2_with (refine wpList_load_row rfl 27 _ rfl w.heap.size rfl 27 (blk f) (0, 0) _ hX1 Try.underlying27 rfl (by rw [blk_size]; kernel_rfl) ?_)
  clear hX1
  go_loopw [3, 7] (fun c a wr => ∃ n : Nat, n ≤ 64 ∧ c = .int .i64 0 ∧ a = .int .i64 (n : Int) ∧ wr = W1 ∧ ∀ m, m < n → -255 ≤ f m ∧ f m ≤ 255) (fun _ a _ => 64 - (intOf a).toNat)
  case atStart => exact ⟨0, by decide, rfl, rfl, rfl, fun m h => absurd h (Nat.not_lt_zero m)⟩
  case round =>
    obtain ⟨n, hn, rfl, rfl, rfl, hall⟩ := hrel
    have HA := Lib.hid hall
    clear hall
    by_cases hlt : n < 64
    · have d1 : decide ((n : Int) < 64) = true := by simp; omega
      have i1 := HIx.out n hlt
      by_cases hin : -255 ≤ f n ∧ f n ≤ 255
      · have HN := Lib.hid (show ∀ m, m < n + 1 → -255 ≤ f m ∧ f m ≤ 255 from fun m hm => by
          by_cases e : m = n
          · subst e; exact hin
          · exact HA.out m (by omega))
        have d2 : decide (f n < -255) = false := by simp; omega
        have d3 : decide (255 < f n) = false := by simp; omega
        clear hin
        generalize f n = v at *
        go_wp2_with fail
        go_roundw
        case rel => exact ⟨n + 1, by omega, rfl, congrArg (Value.int .i64) (by omega), by trivial, HN.out⟩
        case measure => simp [intOf]; omega
      · have hres := HR1.out
        have hb := HB1.out
        have HRow := Lib.hid (setRow_heap wr (w.heap.size + 1) _ (blk fun _ => 0) _ _ hres)
        have hW : Below w.heap.size w (wr.setRow (w.heap.size + 1) (blk fun _ => 0)) := by
          refine ⟨hb.os, hb.tape, hb.output, by rw [setRow_size]; exact hb.size, fun j hj => ?_⟩
          rw [setRow_other _ _ _ _ (by omega)]
          exact hb.block j hj
        have HW := Lib.hid hW
        clear hW hb
        by_cases h1 : f n < -255
        · have d2 : decide (f n < -255) = true := by simpa using h1
          clear hin h1 HA
          generalize f n = v at *
          go_wp2_with (first | (refine wpl_build_to rfl 27 rfl (blk fun _ => 0) (by kernel_rfl) ?_) | (refine wpList_store_row rfl 27 _ _ rfl (w.heap.size + 1) (blk fun _ => 0) rfl rfl 27 _ hres (by rw [blk_size]; kernel_rfl) (by simp only [blk_size]) (blk_one _) ?_))
          refine bodyPost_ret (v := .tuple #[.agg (blk fun _ => 0), .int .i64 2]) (by simp [results, Act.put, Try.results17, asAddr, run_loadVar_row _ _ _ _ _ _ _ HRow.out Try.underlying27 rfl (by rw [blk_size]; kernel_rfl)]) rfl ⟨rfl, HW.out⟩
        · have d2 : decide (f n < -255) = false := by simpa using h1
          have d3 : decide (255 < f n) = true := by simp; omega
          clear hin h1 HA
          generalize f n = v at *
          go_wp2_with (first | (refine wpl_build_to rfl 27 rfl (blk fun _ => 0) (by kernel_rfl) ?_) | (refine wpList_store_row rfl 27 _ _ rfl (w.heap.size + 1) (blk fun _ => 0) rfl rfl 27 _ hres (by rw [blk_size]; kernel_rfl) (by simp only [blk_size]) (blk_one _) ?_))
          refine bodyPost_ret (v := .tuple #[.agg (blk fun _ => 0), .int .i64 2]) (by simp [results, Act.put, Try.results17, asAddr, run_loadVar_row _ _ _ _ _ _ _ HRow.out Try.underlying27 rfl (by rw [blk_size]; kernel_rfl)]) rfl ⟨rfl, HW.out⟩
    · exfalso
      obtain ⟨m, hm, hbad⟩ := HH.out
      exact hbad (HA.out m (by omega))
end Go.Proofs.Ytkecdfhpoeknkaa
