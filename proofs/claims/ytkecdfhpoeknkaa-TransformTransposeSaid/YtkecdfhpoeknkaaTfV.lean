/- The code's Inverse. -/
import Derived.Test.YtkecdfhpoeknkaaTfU
import Derived.Test.YtkecdfhpoeknkaaTfS
namespace Go.Proofs.Ytkecdfhpoeknkaa
set_option linter.unusedVariables false
set_option linter.unusedSimpArgs false
open Go.RowKit Go.Sort

theorem tp_iv (y : Nat → Int) (n : Nat) (hn : n < 64) : tp si (tp si y) n = TF.iv (fun i j => y (8 * i + j)) (n / 8) (n % 8) := by
  rw [TF.iv_swap]
  unfold tp
  apply TF.s8_congr
  intro j hj
  rw [si_at (n % 8) j hj]
  congr 1
  apply TF.s8_congr
  intro i hi
  have a1 : (8 * j + n / 8) / 8 = j := by omega
  have a2 : (8 * j + n / 8) % 8 = n / 8 := by omega
  rw [a1, a2, si_at (n / 8) i hi]
theorem si_bd (n : Nat) : -27744 ≤ si n ∧ si n ≤ 27744 := wt_bd _ _ (tm_any _ _) (nz_in (n % 8) (by omega)).2.2.2.2
theorem tp_iv_bd (y : Nat → Int) (h : ∀ n, n < 64 → -2097152 ≤ y n ∧ y n ≤ 2097152) : (∀ n m, n < 64 → m < 64 → -58183385088 ≤ si n * y m ∧ si n * y m ≤ 58183385088) ∧ (∀ n, n < 64 → -465467080704 ≤ tp si y n ∧ tp si y n ≤ 465467080704) ∧
    (∀ n m, n < 64 → m < 64 → -12913918687051776 ≤ si n * tp si y m ∧ si n * tp si y m ≤ 12913918687051776) ∧ (∀ n, n < 64 → -103311349496414208 ≤ tp si (tp si y) n ∧ tp si (tp si y) n ≤ 103311349496414208) := by
  have c1 : ∀ n m, n < 64 → m < 64 → -58183385088 ≤ si n * y m ∧ si n * y m ≤ 58183385088 := fun n m _ hm => prod_bd2 _ _ 27744 2097152 (by decide) (si_bd n) (h m hm)
  have b1 := tp_bd si y 58183385088 c1
  have c2 : ∀ n m, n < 64 → m < 64 → -12913918687051776 ≤ si n * tp si y m ∧ si n * tp si y m ≤ 12913918687051776 := fun n m _ hm => prod_bd2 _ _ 27744 465467080704 (by decide) (si_bd n) (b1 m hm)
  exact ⟨c1, b1, c2, tp_bd si _ 12913918687051776 c2⟩
/-- the sums of the way back, by the code's transformed -/
theorem trans_iv (y : Nat → Int) (h : ∀ n, n < 64 → -2097152 ≤ y n ∧ y n ≤ 2097152) (u : World) :
    Calls Try.prog 26 #[.agg (blk si), .agg (blk y)] u fun e w' => e = .returned (.agg (blk (tp si (tp si y)))) ∧ Below u.heap.size u w' := by
  obtain ⟨c1, b1, c2, -⟩ := tp_iv_bd y h
  exact transformed_c si y (turned_c si y 58183385088 c1 (by decide) (fun n hn => by have := h n hn; omega)) (turned_c si (tp si y) 12913918687051776 c2 (by decide) (fun n hn => by have := b1 n hn; omega)) u

/-- the first n elements from h, the others from f -/
def pm (h f : Nat → Int) (n : Nat) : Nat → Int := fun m => if m < n then h m else f m
theorem pm_up (h f : Nat → Int) (n : Nat) : up (pm h f n) n (h n) = pm h f (n + 1) := by
  funext m
  unfold up pm
  by_cases e : m = n
  · subst e; simp
  · rw [if_neg e]
    by_cases h2 : m < n
    · rw [if_pos h2, if_pos (by omega)]
    · rw [if_neg h2, if_neg (by omega)]
theorem pm_zero (h f : Nat → Int) : pm h f 0 = f := by funext m; unfold pm; simp
theorem pm_all (h f : Nat → Int) : blk (pm h f 64) = blk h := blk_congr fun n hn => by unfold pm; rw [if_pos hn]
/-- what the loops keep: the block that is changed, the result -/
def VInv (w : World) (X : Nat) (g : Nat → Int) (v : World) : Prop :=
  Cel v X 27 (blk g) ∧ Cel v (w.heap.size + 1) 27 (blk fun _ => 0) ∧ Below w.heap.size w v
theorem VInv.set {w v : World} {X : Nat} {g : Nat → Int} (H : VInv w X g v) (hX : w.heap.size ≤ X ∧ X ≠ w.heap.size + 1) (n : Nat) (z : Int) : VInv w X (up g n z) (v.setCell ⟨X, n, none⟩ (.int .i64 z)) :=
  ⟨by rw [← blk_set]; exact H.1.store n _, H.2.1.far (by show w.heap.size + 1 ≠ X; omega) _, H.2.2.setCell (by show w.heap.size ≤ X; omega) _⟩
theorem alloc_blk (o : Oper) (a : Act) (w : World) (h : o.op = .alloc 27) : (execOp a.eval o).run Try.prog w = .ok (.value (ptr w.heap.size)) (w.alloc (.cells (blk fun _ => 0) 27)) := by
  obtain ⟨dst, op, ty, pos, after, guard⟩ := o
  simp only at h
  subst h
  go_simp
  exact ⟨rfl, congrArg w.alloc (congrArg (fun c => Obj.cells c 27) (by kernel_rfl))⟩
theorem store_blk (o : Oper) (a : Act) (w : World) (p q : Tmp) (B : Nat) (ho : o.op = .store 27 (.tmp p) (.tmp q)) (hp : a.tmps.getD p undef = ptr B) (hw : w.heap[B]? = some (.cells (blk fun _ => 0) 27 (0, 0)))
    (hq : ∃ f, a.tmps.getD q undef = .agg (blk f)) : ∃ w', (execOp a.eval o).run Try.prog w = .ok .skip w' ∧ w.grownBy w' (some B) ∧ w'.heap[B]? = some (.cells (a.tmps.getD q undef).cells 27 (0, 0)) := by
  obtain ⟨f, hq⟩ := hq
  exact store_run o a w p q B _ _ ho hp hw hq (by rw [blk_size]; kernel_rfl) (by rw [blk_size, blk_size]) (blk_one _)

theorem cl_if (v : Int) : (if -2097152 < (if 2097152 < v then 2097152 else v) then (if 2097152 < v then 2097152 else v) else -2097152) = cl v := by
  unfold cl
  split <;> split <;> omega

set_option maxRecDepth 20000 in
set_option maxHeartbeats 2000000 in
theorem cinverse_c (f : Nat → Int) (hf : ∀ n, n < 64 → -9223372036854775808 ≤ f n ∧ f n ≤ 9223372036854775807) (w : World) :
    Calls Try.prog 20 #[.agg (blk f)] w fun e w' => e = .returned (.agg (blk fun n => TF.near (TF.iv (fun i j => cl (f (8 * i + j))) (n / 8) (n % 8)))) ∧ Below w.heap.size w w' := by
  have gA : ∀ o a u v, growAt Try.prog o a u v = growUpon Try.prog u v ((execOp a.eval o).run Try.prog u) := fun _ _ _ _ => rfl
  have gV : ∀ u v x w', growUpon Try.prog u v (.ok (.value x) w') = (w' = u ∧ x = v) := fun _ _ _ _ => rfl
  have gE : ∀ u v g args w', growUpon Try.prog u v (.ok (.enter g args) w') = (w' = u ∧ Calls Try.prog g args u (fun e w'' => e = .returned v ∧ Below u.heap.size u w'')) := fun _ _ _ _ _ => rfl
  have HX0 := Lib.hid (Cel.made w 27 (blk f))
  have HT := Lib.hid (trans_iv (fun n => cl (f n)) (fun n _ => cl_bd (f n)))
  have HTB := Lib.hid (tp_iv_bd (fun n => cl (f n)) (fun n _ => cl_bd (f n))).2.2.2
  have HTV := Lib.hid (tp_iv (fun n => cl (f n)))
  have HSc := Lib.hid scaled_c
  have HIx := Lib.hid (idx64 f)
  have HF := Lib.hid hf
  clear hf
  go_enter Try.func20, Try.ntmps20
  go_upto_region 1 with fail
  show Code.wp _ _ _ _ ((w.alloc (Obj.cells (blk f) 27)).alloc (Obj.cells (blk fun _ => 0) 27))
  have hI : VInv w w.heap.size f ((w.alloc (Obj.cells (blk f) 27)).alloc (Obj.cells (blk fun _ => 0) 27)) := by
    have := Cel.made (w.alloc (Obj.cells (blk f) 27)) 27 (blk fun _ => 0)
    rw [World.size_alloc] at this
    exact ⟨HX0.out.alloc _, this, ((Below.refl _ _).alloc (Nat.le_refl _) _).alloc (by rw [World.size_alloc]; omega) _⟩
  generalize ((w.alloc (Obj.cells (blk f) 27)).alloc (Obj.cells (blk fun _ => 0) 27)) = W1 at *
  clear HX0
  have HI0 := Lib.hid hI
  have hX1 := hI.1
  clear hI
  go_wp2_with (refine wpList_load_row rfl 27 _ rfl w.heap.size rfl 27 (blk f) (0, 0) _ hX1 Try.underlying27 rfl (by rw [blk_size]; kernel_rfl) ?_)
  clear hX1
  go_loopw [9] (fun a v => ∃ n : Nat, n ≤ 64 ∧ a = .int .i64 (n : Int) ∧ VInv w w.heap.size (pm (fun n => cl (f n)) f n) v) (fun a _ => 64 - (intOf a).toNat)
  case atStart => exact ⟨0, by decide, rfl, by rw [pm_zero]; exact HI0.out⟩
  case round =>
    obtain ⟨n, hn, rfl, hI⟩ := hrel
    have HI := Lib.hid hI
    clear hI
    by_cases hlt : n < 64
    · have d1 : decide ((n : Int) < 64) = true := by simp; omega
      have i1 := HIx.out n hlt
      have hb := HF.out n hlt
      have c1 := (HI.out.1.cell n).trans (blk_at _ n hlt)
      have f0 := HI.out.1.free n
      have hset := HI.out.set (by omega) n (cl (f n))
      rw [pm_up (fun n => cl (f n)) f n] at hset
      have HSet := Lib.hid hset
      clear hset
      go_wp2_with fail
      go_roundw
      case rel => exact ⟨n + 1, by omega, congrArg (Value.int .i64) (by omega), by rw [cl_if]; exact HSet.out⟩
      case measure => simp [intOf]; omega
    · have e : n = 64 := by omega
      subst e
      have hI := HI.out
      rw [VInv, pm_all] at hI
      have HJ := Lib.hid hI
      clear hI HI HIx HI0 HF hn hlt
      go_upto_region 6 with fail
      have l1 := load64 HJ.out.1
      refine wp_region_grow 5 27 (blk fun _ => 0) (fun v => ∃ f, v = .agg (blk f)) (by kernel_rfl) (by kernel_rfl) (by kernel_rfl) alloc_blk (by kernel_rfl) store_blk ?_
      simp only [List.take_succ_cons, List.take_zero]
      refine lexW_step (fun K hK => ?_)
      simp only [isMade, keptAt]
      go_simp
      refine ⟨_, fun p => grow_call _ (HSc.out _) (grow_size _ _), hK _ ?_⟩
      clear hK K
      refine lexW_load rfl 27 _ rfl _ _ rfl l1 ?_
      clear l1
      refine lexW_step (fun K hK => ?_)
      simp only [isMade, keptAt]
      go_simp
      refine ⟨_, fun p => grow_call _ (HT.out _) (grow_size _ _), hK _ ?_⟩
      clear hK K
      refine lexW_step (fun K hK => ?_)
      simp only [isMade, keptAt]
      go_simp
      refine hK _ ?_
      clear hK K
      refine lexW_step (fun K hK => ?_)
      simp only [isMade, keptAt]
      go_simp
      refine hK _ ?_
      clear hK K
      refine lexW_nil (Behind2.behind (ms := [(3, 5)]) (ks := [(5, 21)]) (tail := []) (mk := fun β a => (a.put (some 5) (ptr (β 3)))) (by kernel_rfl) (by kernel_rfl) (by kernel_rfl) (fun _ _ => by kernel_rfl) ⟨?_, ?_, ?_⟩)
      · intro pq hpq
        simp only [List.mem_cons, List.not_mem_nil, or_false] at hpq
        rcases hpq with rfl
        exact ⟨_, rfl⟩
      · intro ip hip
        simp only [List.mem_cons, List.not_mem_nil, or_false] at hip
        rcases hip with rfl
        simp
      intro β w3 hb3 hnn hu
      clear hu
      unfold wpList
      simp only [ptr]
      have hge := (hnn (3, 5) (by simp)).1
      have C3 := Lib.hid (show Cel w3 (β 3) 27 (blk (tp si (tp si fun n => cl (f n)))) from (hnn (3, 5) (by simp)).2)
      clear hnn
      simp only at hge
      generalize β 3 = G at *
      clear β
      have hlt1 := HJ.out.2.1.lt
      have hG : w.heap.size ≤ G ∧ G ≠ w.heap.size + 1 := by omega
      have HI0 := Lib.hid (show VInv w G (tp si (tp si fun n => cl (f n))) w3 from ⟨C3.out, HJ.out.2.1.below hb3, HJ.out.2.2.trans (hb3.mono HJ.out.2.2.size)⟩)
      clear hb3 HJ hge hlt1 gA gV gE HT HSc
      have HFin := Lib.hid (show (fun n => TF.near (tp si (tp si fun n => cl (f n)) n)) = (fun n => TF.near (tp si (tp si fun n => cl (f n)) n)) from rfl)
      obtain ⟨g, hg⟩ : ∃ g, tp si (tp si fun n => cl (f n)) = g := ⟨_, rfl⟩
      rw [hg] at HI0 C3
      rw [hg] at HTB
      have HY := Lib.hid (show blk (fun n => TF.near (g n)) = blk (fun n => TF.near (TF.iv (fun i j => cl (f (8 * i + j))) (n / 8) (n % 8))) from blk_congr fun n hn => by rw [← HTV.out n hn, hg])
      have hX1 := HI0.out.1
      clear HFin
      have HIx := Lib.hid (idx64 g)
      clear hg HTV
      go_wp2_with (refine wpList_load_row rfl 27 _ rfl G rfl 27 (blk g) (0, 0) _ hX1 Try.underlying27 rfl (by rw [blk_size]; kernel_rfl) ?_)
      clear hX1 C3
      go_loopw [23] (fun a v => ∃ n : Nat, n ≤ 64 ∧ a = .int .i64 (n : Int) ∧ VInv w G (pm (fun n => TF.near (g n)) g n) v) (fun a _ => 64 - (intOf a).toNat)
      case atStart => exact ⟨0, by decide, rfl, by rw [pm_zero]; exact HI0.out⟩
      case round =>
        obtain ⟨n, hn, rfl, hI⟩ := hrel
        have HI := Lib.hid hI
        clear hI
        by_cases hlt : n < 64
        · have d1 : decide ((n : Int) < 64) = true := by simp; omega
          have i1 := HIx.out n hlt
          have hb := HTB.out n hlt
          have hr := fun u => rounded_c (g n) (by omega) u
          have c1 := (HI.out.1.cell n).trans (blk_at _ n hlt)
          have f0 := HI.out.1.free n
          have hset := HI.out.set hG n (TF.near (g n))
          rw [pm_up (fun n => TF.near (g n)) g n] at hset
          have HSet := Lib.hid hset
          have HR := Lib.hid hr
          clear hset hr
          go_wp2_with fail
          refine (HR.out _).mono ?_
          rintro e _ ⟨rfl, rfl⟩
          go_wp2_with fail
          go_roundw
          case rel => exact ⟨n + 1, by omega, congrArg (Value.int .i64) (by omega), HSet.out⟩
          case measure => simp [intOf]; omega
        · have e : n = 64 := by omega
          subst e
          have hI := HI.out
          rw [VInv, pm_all, HY.out] at hI
          obtain ⟨hY, hres, hb⟩ := hI
          obtain ⟨y, hye⟩ : ∃ y, (fun n => TF.near (TF.iv (fun i j => cl (f (8 * i + j))) (n / 8) (n % 8))) = y := ⟨_, rfl⟩
          rw [hye] at hY
          have HYe := Lib.hid hye
          have HRow := Lib.hid (setRow_heap wr (w.heap.size + 1) _ (blk y) _ _ hres)
          have hW : Below w.heap.size w (wr.setRow (w.heap.size + 1) (blk y)) := by
            refine ⟨hb.os, hb.tape, hb.output, by rw [setRow_size]; exact hb.size, fun j hj => ?_⟩
            rw [setRow_other _ _ _ _ (by omega)]
            exact hb.block j hj
          have HW := Lib.hid hW
          clear hW hb HI HI0 HIx HY HTB hye
          go_wp2_with (first | (refine wpList_load_row rfl 27 _ rfl G rfl 27 (blk y) (0, 0) _ hY Try.underlying27 rfl (by rw [blk_size]; kernel_rfl) ?_) | (refine wpList_store_row rfl 27 _ _ rfl (w.heap.size + 1) (blk y) rfl rfl 27 _ hres (by rw [blk_size]; kernel_rfl) (by simp only [blk_size]) (blk_one _) ?_))
          refine bodyPost_ret (v := .agg (blk y)) (by simp [results, Act.put, Try.results20, asAddr, run_loadVar_row _ _ _ _ _ _ _ HRow.out Try.underlying27 rfl (by rw [blk_size]; kernel_rfl)]) rfl ⟨by rw [HYe.out], HW.out⟩
end Go.Proofs.Ytkecdfhpoeknkaa
