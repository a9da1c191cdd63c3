/- The law of Transpose. -/
import Derived.Test.YtkecdfhpoeknkaaTfLE
namespace Go.Proofs.Ytkecdfhpoeknkaa
set_option linter.unusedVariables false
set_option linter.unusedSimpArgs false
open Go.RowKit Go.Sort

/-- the place that a place goes to -/
def sg (n : Nat) : Nat := n % 8 * 8 + n / 8
theorem sg_lt (n : Nat) (h : n < 64) : sg n < 64 := by unfold sg; omega
theorem sg_sg (n : Nat) (h : n < 64) : sg (sg n) = n := by unfold sg; omega
theorem sg_div (n : Nat) (h : n < 64) : sg n / 8 = n % 8 ∧ sg n % 8 = n / 8 := by unfold sg; omega
/-- the transpose in the course of being made, and whole -/
def tt (f : Nat → Int) (n m : Nat) : Int := if sg m < n then f (sg m) else 0
theorem tt_up (f : Nat → Int) (n : Nat) (hn : n < 64) : blk (up (tt f n) (sg n) (f n)) = blk (tt f (n + 1)) := by
  apply blk_congr
  intro m hm
  unfold up tt
  by_cases h : m = sg n
  · subst h
    rw [if_pos rfl, sg_sg n hn, if_pos (by omega)]
  · rw [if_neg h]
    have h2 : sg m ≠ n := fun e => h (by rw [← e, sg_sg m hm])
    by_cases h3 : sg m < n
    · rw [if_pos h3, if_pos (by omega)]
    · rw [if_neg h3, if_neg (by omega)]
theorem tt_zero (f : Nat → Int) : blk (tt f 0) = blk fun _ => 0 := blk_congr fun m _ => by unfold tt; rw [if_neg (by omega)]
theorem tt_all (f : Nat → Int) : blk (tt f 64) = blk fun m => f (sg m) := blk_congr fun m hm => by unfold tt; rw [if_pos (sg_lt m hm)]
theorem FW_sg (f : Nat → Int) (n : Nat) (hn : n < 64) : FW (fun m => f (sg m)) (sg n) = FW f n := by
  unfold FW
  rw [(sg_div n hn).1, (sg_div n hn).2, ← TF.fw_t]
  refine TF.fw_congr (fun k hk l hl => ?_) _ _
  show f (sg (8 * l + k)) = f (8 * k + l)
  congr 1
  unfold sg
  omega
theorem IV_sg (f : Nat → Int) (n : Nat) (hn : n < 64) : IV (fun m => f (sg m)) (sg n) = IV f n := by
  unfold IV
  rw [(sg_div n hn).1, (sg_div n hn).2, ← TF.iv_t]
  refine congrArg TF.near (TF.iv_congr (fun k hk l hl => ?_) _ _)
  show cl (f (sg (8 * l + k))) = cl (f (8 * k + l))
  congr 2
  unfold sg
  omega
/-- Forward on a block and on its transpose -/
theorem fwd_sg (f : Nat → Int) : ∃ a b e, (∀ w, Calls Try.prog 17 #[.agg (blk f)] w fun r w' => r = .returned (.tuple #[.agg (blk a), .int .i64 e]) ∧ Below w.heap.size w w') ∧
    (∀ w, Calls Try.prog 17 #[.agg (blk fun m => f (sg m))] w fun r w' => r = .returned (.tuple #[.agg (blk b), .int .i64 e]) ∧ Below w.heap.size w w') ∧ ∀ n, n < 64 → b (sg n) = a n := by
  cases h : wb f 255 with
  | true =>
    exact ⟨_, _, _, fun w => fwd_in f w (wb_true h), fun w => fwd_in _ w (fun n hn => wb_true h _ (sg_lt n hn)), fun n hn => FW_sg f n hn⟩
  | false =>
    obtain ⟨m, hm, hbad⟩ := wb_false h
    exact ⟨_, _, _, fun w => fwd_out f w (wb_false h), fun w => fwd_out _ w ⟨sg m, sg_lt m hm, by rw [sg_sg m hm]; exact hbad⟩, fun n hn => rfl⟩

set_option maxRecDepth 20000 in
set_option maxHeartbeats 2000000 in
theorem lawTranspose_c (W : World) (v : Value) (zs : List Int) (h : Il W W.heap.size v zs) :
    Calls Try.prog 8 #[v] W fun e w' => e = .returned (.bool true) ∧ Below W.heap.size W w' := by
  have gA : ∀ o a u v, growAt Try.prog o a u v = growUpon Try.prog u v ((execOp a.eval o).run Try.prog u) := fun _ _ _ _ => rfl
  have gV : ∀ u v x w', growUpon Try.prog u v (.ok (.value x) w') = (w' = u ∧ x = v) := fun _ _ _ _ => rfl
  have gE : ∀ u v g args w', growUpon Try.prog u v (.ok (.enter g args) w') = (w' = u ∧ Calls Try.prog g args u (fun e w'' => e = .returned v ∧ Below u.heap.size u w'')) := fun _ _ _ _ _ => rfl
  have HA := Lib.hid awake_c
  have HBl := Lib.hid (block_c zs v W _ (Nat.le_refl _) h)
  have HC := Lib.hid (fun w => inv_c (bz zs) w (fun n _ => bz_bd h.1 n))
  have HD := Lib.hid (fun w => inv_c (fun m => bz zs (sg m)) w (fun n _ => bz_bd h.1 (sg n)))
  clear h
  generalize bz zs = f at *
  obtain ⟨ya, yb, ee, hfa, hfb, hab⟩ := fwd_sg f
  have HFa := Lib.hid hfa
  have HFb := Lib.hid hfb
  have HAB := Lib.hid hab
  have HCD := Lib.hid (fun n hn => IV_sg f n hn)
  obtain ⟨yc, hyc⟩ : ∃ yc, IV f = yc := ⟨_, rfl⟩
  obtain ⟨yd, hyd⟩ : ∃ yd, IV (fun m => f (sg m)) = yd := ⟨_, rfl⟩
  rw [hyc] at HC
  rw [hyd] at HD
  rw [hyc, hyd] at HCD
  clear hfa hfb hab hyc hyd
  go_enter Try.func8, Try.ntmps8
  go_wp2_with fail
  refine HBl.out.mono ?_
  rintro e w1 ⟨rfl, h1⟩
  have H1 := Lib.hid h1
  clear h1 HBl
  go_upto_region 2 with (refine wpl_store_new rfl 27 _ _ rfl (blk f) 27 _ rfl rfl (by rw [blk_size]; kernel_rfl) (by rw [blk_size]; rfl) (blk_one _) ?_; intro w2 hc hcel hb; have HK2 := Lib.hid (And.intro hcel (H1.out.trans (hb.mono H1.out.size))); clear hc hcel hb)
  have hsA := H1.out.size
  generalize w1.heap.size = A at *
  clear H1
  go_upto_region 3 with fail
  show Code.wp _ _ _ _ (w2.alloc (Obj.cells (blk fun _ => 0) 27))
  have hAB := HK2.out.1.lt
  have HK3 := Lib.hid (show Cel (w2.alloc (Obj.cells (blk fun _ => 0) 27)) A 27 (blk f) ∧ Cel (w2.alloc (Obj.cells (blk fun _ => 0) 27)) w2.heap.size 27 (blk (tt f 0)) ∧ Below W.heap.size W (w2.alloc (Obj.cells (blk fun _ => 0) 27)) from
    ⟨HK2.out.1.alloc _, by rw [tt_zero]; exact Cel.made _ _ _, HK2.out.2.alloc HK2.out.2.size _⟩)
  generalize (w2.alloc (Obj.cells (blk fun _ => 0) 27)) = w3 at *
  generalize w2.heap.size = B at *
  clear HK2
  go_wp2_with fail
  go_loopw [5] (fun a v => ∃ n : Nat, n ≤ 64 ∧ a = .int .i64 (n : Int) ∧ Cel v A 27 (blk f) ∧ Cel v B 27 (blk (tt f n)) ∧ Below W.heap.size W v) (fun a _ => 64 - (intOf a).toNat)
  case atStart => exact ⟨0, by decide, rfl, HK3.out⟩
  case round =>
    obtain ⟨n, hn, rfl, hJ⟩ := hrel
    have HJ := Lib.hid hJ
    clear hJ
    by_cases hlt : n < 64
    · have d1 : decide ((n : Int) < 64) = true := by simp; omega
      have g0 : (n : Int) < 64 := by omega
      have c1 := (HJ.out.1.cell n).trans (blk_at _ n hlt)
      have c2 := (HJ.out.2.1.cell (sg n)).trans (blk_at _ (sg n) (sg_lt n hlt))
      have f2 := HJ.out.2.1.free (sg n)
      have hset := HJ.out.2.1.store (sg n) (.int .i64 (f n))
      rw [blk_set, tt_up f n hlt] at hset
      have HSet := Lib.hid (show Cel (wr.setCell ⟨B, sg n, none⟩ (.int .i64 (f n))) A 27 (blk f) ∧ Cel (wr.setCell ⟨B, sg n, none⟩ (.int .i64 (f n))) B 27 (blk (tt f (n + 1))) ∧ Below W.heap.size W (wr.setCell ⟨B, sg n, none⟩ (.int .i64 (f n))) from
        ⟨HJ.out.1.far (by show A ≠ B; omega) _, hset, HJ.out.2.2.setCell (by show W.heap.size ≤ B; omega) _⟩)
      clear hset
      have q8 : (n : Int) / 8 = ((n / 8 : Nat) : Int) := by omega
      have m8 := rem8 n
      have hi8 : n / 8 < 8 := by omega
      have hj8 : n % 8 < 8 := by omega
      have hs : sg n = n % 8 * 8 + n / 8 := rfl
      generalize n / 8 = i at *
      generalize n % 8 = j at *
      have wi := IntWalk.i64_in (i : Int) (by omega)
      have wj := IntWalk.i64_in (j : Int) (by omega)
      have w1 := IntWalk.i64_in ((j : Int) * 8) (by omega)
      have w2 := IntWalk.i64_in ((j : Int) * 8 + (i : Int)) (by omega)
      rw [hs] at c2 f2 HSet
      clear hs
      have n1 : ((j : Int) * 8 + (i : Int)).toNat = j * 8 + i := by omega
      have g1 : 0 ≤ (j : Int) * 8 + (i : Int) := by omega
      have g2 : (j : Int) * 8 + (i : Int) < 64 := by omega
      go_wp2_with fail
      go_roundw
      case rel => exact ⟨n + 1, by omega, congrArg (Value.int .i64) (by omega), HSet.out⟩
      case measure => simp [intOf]; omega
    · have e : n = 64 := by omega
      subst e
      have hJ := HJ.out
      rw [tt_all] at hJ
      have HK := Lib.hid hJ
      clear hJ HJ HK3 hn hlt
      generalize ht : (fun m => f (sg m)) = t at *
      have HTe := Lib.hid ht
      clear ht
      have hX := HK.out.1
      go_wp2_with (refine wpList_load_row rfl 27 _ rfl A rfl 27 (blk f) (0, 0) _ hX Try.underlying27 rfl (by rw [blk_size]; kernel_rfl) ?_)
      refine (HFa.out _).mono ?_
      rintro e v1 ⟨rfl, k1⟩
      have HK1 := Lib.hid (And.intro (HK.out.1.below k1) (And.intro (HK.out.2.1.below k1) (HK.out.2.2.trans (k1.mono HK.out.2.2.size))))
      clear k1 hX HK HFa
      go_upto_region 8 with (refine wpl_store_new rfl 27 _ _ rfl (blk ya) 27 _ rfl rfl (by rw [blk_size]; kernel_rfl) (by rw [blk_size]; rfl) (blk_one _) ?_; intro v2 hc hcel hb; have HK2 := Lib.hid (And.intro hcel (And.intro (HK1.out.1.below hb) (And.intro (HK1.out.2.1.below hb) (HK1.out.2.2.trans (hb.mono HK1.out.2.2.size))))); clear hc hcel hb)
      generalize v1.heap.size = GA at *
      clear HK1
      have hX := HK2.out.2.2.1
      go_wp2_with (refine wpList_load_row rfl 27 _ rfl B rfl 27 (blk t) (0, 0) _ hX Try.underlying27 rfl (by rw [blk_size]; kernel_rfl) ?_)
      refine (HFb.out _).mono ?_
      rintro e v3 ⟨rfl, k3⟩
      have HK3 := Lib.hid (And.intro (HK2.out.1.below k3) (And.intro (HK2.out.2.1.below k3) (And.intro (HK2.out.2.2.1.below k3) (HK2.out.2.2.2.trans (k3.mono HK2.out.2.2.2.size)))))
      clear k3 hX HK2 HFb
      go_upto_region 9 with (refine wpl_store_new rfl 27 _ _ rfl (blk yb) 27 _ rfl rfl (by rw [blk_size]; kernel_rfl) (by rw [blk_size]; rfl) (blk_one _) ?_; intro v4 hc hcel hb; have HK4 := Lib.hid (And.intro (HK3.out.1.below hb) (And.intro hcel (And.intro (HK3.out.2.1.below hb) (And.intro (HK3.out.2.2.1.below hb) (HK3.out.2.2.2.trans (hb.mono HK3.out.2.2.2.size)))))); clear hc hcel hb)
      generalize v3.heap.size = GB at *
      clear HK3
      go_upto_region 11 with fail
      have l1 := load64 HK4.out.2.2.1
      have l2 := load64 HK4.out.2.2.2.1
      refine wp_region_grow 8 27 (blk fun _ => 0) (fun v => ∃ f, v = .agg (blk f)) (by kernel_rfl) (by kernel_rfl) (by kernel_rfl) alloc_blk (by kernel_rfl) store_blk ?_
      simp only [List.take_succ_cons, List.take_zero]
      refine lexW_load rfl 27 _ rfl _ _ rfl l1 ?_
      refine lexW_step (fun K hK => ?_)
      simp only [isMade, keptAt]
      go_simp
      refine ⟨_, fun p => grow_call _ (HC.out _) (grow_size _ _), hK _ ?_⟩
      clear hK K
      refine lexW_load rfl 27 _ rfl _ _ rfl l2 ?_
      refine lexW_step (fun K hK => ?_)
      simp only [isMade, keptAt]
      go_simp
      refine ⟨_, fun p => grow_call _ (HD.out _) (grow_size _ _), hK _ ?_⟩
      clear hK K
      iterate 4 (refine lexW_step (fun K hK => ?_); simp only [isMade, keptAt]; go_simp; refine hK _ ?_; clear hK K)
      clear l1 l2
      refine lexW_nil (Behind2.behind (ms := [(4, 10), (5, 11)]) (ks := [(10, 43), (11, 45)]) (tail := []) (mk := fun β a => ((a.put (some 10) (ptr (β 4))).put (some 11) (ptr (β 5)))) (by kernel_rfl) (by kernel_rfl) (by kernel_rfl) (fun _ _ => by kernel_rfl) ⟨?_, ?_, ?_⟩)
      · intro pq hpq
        simp only [List.mem_cons, List.not_mem_nil, or_false] at hpq
        rcases hpq with rfl | rfl <;> exact ⟨_, rfl⟩
      · intro ip hip
        simp only [List.mem_cons, List.not_mem_nil, or_false] at hip
        rcases hip with rfl | rfl <;> simp
      intro β v5 hb5 hnn hu
      clear hu
      unfold wpList
      simp only [ptr]
      have CX := Lib.hid (show Cel v5 (β 4) 27 (blk yc) from (hnn (4, 10) (by simp)).2)
      have CY := Lib.hid (show Cel v5 (β 5) 27 (blk yd) from (hnn (5, 11) (by simp)).2)
      clear hnn
      generalize β 4 = GC at *
      generalize β 5 = GD at *
      clear β
      have HK5 := Lib.hid (And.intro (HK4.out.1.below hb5) (And.intro (HK4.out.2.1.below hb5) (And.intro CX.out (And.intro CY.out (HK4.out.2.2.2.2.trans (hb5.mono HK4.out.2.2.2.2.size))))))
      clear hb5 CX CY HK4 HC HD
      go_wp2_with fail
      go_loopw [12] (fun a v => ∃ n : Nat, n ≤ 64 ∧ a = .int .i64 (n : Int) ∧ Cel v GA 27 (blk ya) ∧ Cel v GB 27 (blk yb) ∧ Cel v GC 27 (blk yc) ∧ Cel v GD 27 (blk yd) ∧ Below W.heap.size W v) (fun a _ => 64 - (intOf a).toNat)
      case atStart => exact ⟨0, by decide, rfl, HK5.out⟩
      case round =>
        obtain ⟨n, hn, rfl, hJ⟩ := hrel
        have HJ := Lib.hid hJ
        clear hJ
        by_cases hlt : n < 64
        · have d1 : decide ((n : Int) < 64) = true := by simp; omega
          have g0 : (n : Int) < 64 := by omega
          have r1 := cell_regrown ((HJ.out.1.cell n).trans (blk_at _ n hlt))
          have r2 := cell_regrown ((HJ.out.2.1.cell (sg n)).trans (blk_at _ (sg n) (sg_lt n hlt)))
          have r3 := cell_regrown ((HJ.out.2.2.1.cell n).trans (blk_at _ n hlt))
          have r4 := cell_regrown ((HJ.out.2.2.2.1.cell (sg n)).trans (blk_at _ (sg n) (sg_lt n hlt)))
          rw [HAB.out n hlt] at r2
          rw [HCD.out n hlt] at r4
          have q8 : (n : Int) / 8 = ((n / 8 : Nat) : Int) := by omega
          have m8 := rem8 n
          have hi8 : n / 8 < 8 := by omega
          have hj8 : n % 8 < 8 := by omega
          have hs : sg n = n % 8 * 8 + n / 8 := rfl
          generalize n / 8 = i at *
          generalize n % 8 = j at *
          have wi := IntWalk.i64_in (i : Int) (by omega)
          have wj := IntWalk.i64_in (j : Int) (by omega)
          have w1 := IntWalk.i64_in ((j : Int) * 8) (by omega)
          have w2 := IntWalk.i64_in ((j : Int) * 8 + (i : Int)) (by omega)
          rw [hs] at r2 r4
          clear hs
          have n1 : ((j : Int) * 8 + (i : Int)).toNat = j * 8 + i := by omega
          have g1 : 0 ≤ (j : Int) * 8 + (i : Int) := by omega
          have g2 : (j : Int) * 8 + (i : Int) < 64 := by omega
          generalize ya n = xa at *
          generalize yc n = xc at *
          go_upto_region 15 with fail
          refine wp_region_grow 26 3 #[.int .i64 0] (fun _ => False) (by kernel_rfl) (by kernel_rfl) (by kernel_rfl) alloc_int (by kernel_rfl) (fun _ _ _ _ _ _ _ _ _ h => h.elim) ?_
          simp only [List.take_succ_cons, List.take_zero]
          iterate 26 (refine lexW_step (fun K hK => ?_); simp only [isMade, keptAt]; go_simp; refine hK _ ?_; clear hK K)
          clear r1 r2 r3 r4 wi wj w1 w2 q8 m8 n1
          refine lexW_nil (Behind2.behind (ms := []) (ks := []) (tail := []) (mk := fun _ a => a) (by kernel_rfl) (by kernel_rfl) (by kernel_rfl) (fun _ _ => by kernel_rfl) ⟨fun _ h => (by cases h), fun _ h => (by cases h), ?_⟩)
          intro β v7 hb7 _ _
          unfold wpList
          have HJ4 := Lib.hid (And.intro (HJ.out.1.below hb7) (And.intro (HJ.out.2.1.below hb7) (And.intro (HJ.out.2.2.1.below hb7) (And.intro (HJ.out.2.2.2.1.below hb7) (HJ.out.2.2.2.2.trans (hb7.mono HJ.out.2.2.2.2.size))))))
          clear hb7 HJ
          go_wp2_with fail
          go_roundw
          case rel => exact ⟨n + 1, by omega, congrArg (Value.int .i64) (by omega), HJ4.out⟩
          case measure => simp [intOf]; omega
        · have e : n = 64 := by omega
          subst e
          go_wp2_with fail
          refine (HA.out _).mono ?_
          rintro e wz ⟨rfl, hz⟩
          have HZ := Lib.hid (HJ.out.2.2.2.2.trans (hz.mono HJ.out.2.2.2.2.size))
          clear hz
          go_wp2_with fail
          go_ret
          exact ⟨rfl, HZ.out⟩
end Go.Proofs.Ytkecdfhpoeknkaa
