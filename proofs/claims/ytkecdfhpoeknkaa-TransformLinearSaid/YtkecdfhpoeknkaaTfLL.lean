/- The law of Linear. -/
import Derived.Test.YtkecdfhpoeknkaaTfLF
namespace Go.Proofs.Ytkecdfhpoeknkaa
set_option linter.unusedVariables false
set_option linter.unusedSimpArgs false
open Go.RowKit Go.Sort

/-- two variables are made, and a whole value is stored into the first -/
theorem wpl_store_two {P : Program} {ops : Array Oper} {rest : List Oper} {o : Oper} {a : Act} {w : World} {Q : Exit → Act → World → Prop} (hgd : o.guard = none) (ty : TypeId) (x y : Operand) (ho : o.op = .store ty x y)
    (cells : Array Value) (t : TypeId) (old : Array Value) (t2 : TypeId) (old2 : Array Value) (hx : a.eval x = .pointer (some ⟨w.heap.size, 0, none⟩)) (hy : a.eval y = .agg cells)
    (hi : (P.info? ty).map (·.size) = some cells.size) (hold : old.size = cells.size) (h1 : cells.all (·.oneCell') = true)
    (h : ∀ w2, Cel w2 w.heap.size t cells → Cel w2 (w.heap.size + 1) t2 old2 → Below w.heap.size w w2 → wpList P ops Q rest (a.put o.dst undef) w2) : wpList P ops Q (o :: rest) a ((w.alloc (.cells old t)).alloc (.cells old2 t2)) := by
  have c1 : Cel ((w.alloc (.cells old t)).alloc (.cells old2 t2)) w.heap.size t old := (Cel.made w t old).alloc _
  have c2 : Cel ((w.alloc (.cells old t)).alloc (.cells old2 t2)) (w.heap.size + 1) t2 old2 := by
    have := Cel.made (w.alloc (.cells old t)) t2 old2
    rwa [World.size_alloc] at this
  have b : Below w.heap.size w ((w.alloc (.cells old t)).alloc (.cells old2 t2)) := ((Below.refl _ _).alloc (Nat.le_refl _) _).alloc (by rw [World.size_alloc]; omega) _
  refine wpList_store_row hgd ty x y ho w.heap.size cells hx hy t old c1 hi hold h1 (h _ (setRow_heap _ _ _ _ _ _ c1) ?_ ?_)
  · unfold Cel at c2 ⊢
    rw [setRow_other _ _ _ _ (by omega)]
    exact c2
  · refine ⟨b.os, b.tape, b.output, ?_, fun j hj => ?_⟩
    · rw [setRow_size]; exact b.size
    · rw [setRow_other _ _ _ _ (by omega)]; exact b.block j hj
theorem Cel.row {w : World} {g g' : Nat} {t : TypeId} {cs cs' : Array Value} (h : Cel w g t cs) (hne : g' ≠ g) : Cel (w.setRow g' cs') g t cs := by
  unfold Cel at h ⊢
  rw [setRow_other _ _ _ _ (by omega)]
  exact h
theorem below_row {B : Nat} {a w : World} (h : Below B a w) {g : Nat} (hg : B ≤ g) (cs : Array Value) : Below B a (w.setRow g cs) := by
  refine ⟨h.os, h.tape, h.output, by rw [setRow_size]; exact h.size, fun j hj => ?_⟩
  rw [setRow_other _ _ _ _ (by omega)]
  exact h.block j hj
theorem FW_add (f g : Nat → Int) (n : Nat) : FW (fun n => f n + g n) n = FW f n + FW g n := TF.fw_add (fun k l => f (8 * k + l)) (fun k l => g (8 * k + l)) (n / 8) (n % 8)

set_option maxRecDepth 20000 in
set_option maxHeartbeats 2000000 in
theorem lawLinear_c (W : World) (v0 v1 : Value) (zs : List Int) (h0 : Il W W.heap.size v0 zs) (ms : List Int) (h1 : Il W W.heap.size v1 ms) :
    Calls Try.prog 7 #[v0, v1] W fun e w' => e = .returned (.bool true) ∧ Below W.heap.size W w' := by
  have gA : ∀ o a u v, growAt Try.prog o a u v = growUpon Try.prog u v ((execOp a.eval o).run Try.prog u) := fun _ _ _ _ => rfl
  have gV : ∀ u v x w', growUpon Try.prog u v (.ok (.value x) w') = (w' = u ∧ x = v) := fun _ _ _ _ => rfl
  have gE : ∀ u v g args w', growUpon Try.prog u v (.ok (.enter g args) w') = (w' = u ∧ Calls Try.prog g args u (fun e w'' => e = .returned v ∧ Below u.heap.size u w'')) := fun _ _ _ _ _ => rfl
  have HA := Lib.hid awake_c
  have HI1 := Lib.hid h1
  have HBl := Lib.hid (block_c zs v0 W _ (Nat.le_refl _) h0)
  have HW1 := Lib.hid (within_c (bz zs) 127 (by decide))
  have HW2 := Lib.hid (within_c (bz ms) 127 (by decide))
  have HBl2 := Lib.hid (fun w (h : Below W.heap.size W w) => block_c ms v1 w _ h.size (h1.below h))
  clear h0 h1 HI1
  generalize bz zs = f at *
  generalize bz ms = g at *
  have HZ := Lib.hid (show blk (fun _ => 0) = blk (fun _ => 0) from rfl)
  go_enter Try.func7, Try.ntmps7
  go_wp2_with fail
  refine HBl.out.mono ?_
  rintro e w1 ⟨rfl, h1⟩
  have H1 := Lib.hid h1
  clear h1 HBl
  go_wp2_with fail
  refine (HBl2.out _ H1.out).mono ?_
  rintro e w2 ⟨rfl, h2⟩
  have H2 := Lib.hid (H1.out.trans (h2.mono H1.out.size))
  clear h2 HBl2 H1
  go_upto_region 2 with (first | (refine wpl_store_two rfl 27 _ _ rfl (blk f) 27 _ 27 _ rfl rfl (by rw [blk_size]; kernel_rfl) (by rw [blk_size]; rfl) (blk_one _) ?_; intro w3 hc1 hc2 hb) |
     (refine wpList_store_row rfl 27 _ _ rfl (w2.heap.size + 1) (blk g) rfl rfl 27 _ hc2 (by rw [blk_size]; kernel_rfl) (by rw [blk_size]; rfl) (blk_one _) ?_))
  have hA2 := H2.out.size
  have HJ0 := Lib.hid (show Cel (w3.setRow (w2.heap.size + 1) (blk g)) w2.heap.size 27 (blk f) ∧ Cel (w3.setRow (w2.heap.size + 1) (blk g)) (w2.heap.size + 1) 27 (blk g) ∧ Below W.heap.size W (w3.setRow (w2.heap.size + 1) (blk g)) from
    ⟨hc1.row (by omega), setRow_heap w3 _ _ _ _ _ hc2, below_row (H2.out.trans (hb.mono H2.out.size)) (by omega) _⟩)
  clear hc1 hc2 hb H2
  generalize w3.setRow (w2.heap.size + 1) (blk g) = w4 at *
  generalize w2.heap.size = A at *
  have hX := HJ0.out.1
  cases hwf : wb f 127 with
  | false =>
    rw [hwf] at HW1
    go_wp2_with (refine wpList_load_row rfl 27 _ rfl A rfl 27 (blk f) (0, 0) _ hX Try.underlying27 rfl (by rw [blk_size]; kernel_rfl) ?_)
    refine (HW1.out _).mono ?_
    rintro e w5 ⟨rfl, h5⟩
    have H5 := Lib.hid (HJ0.out.2.2.trans (h5.mono HJ0.out.2.2.size))
    clear h5 hX HJ0
    go_wp2_with fail
    refine (HA.out _).mono ?_
    rintro e w6 ⟨rfl, h6⟩
    have H6 := Lib.hid (H5.out.trans (h6.mono H5.out.size))
    clear h6
    go_wp2_with fail
    go_ret
    exact ⟨rfl, H6.out⟩
  | true =>
    rw [hwf] at HW1
    go_wp2_with (refine wpList_load_row rfl 27 _ rfl A rfl 27 (blk f) (0, 0) _ hX Try.underlying27 rfl (by rw [blk_size]; kernel_rfl) ?_)
    refine (HW1.out _).mono ?_
    rintro e w5 ⟨rfl, h5⟩
    have HJ1 := Lib.hid (And.intro (HJ0.out.1.below h5) (And.intro (HJ0.out.2.1.below h5) (HJ0.out.2.2.trans (h5.mono HJ0.out.2.2.size))))
    clear h5 hX HJ0
    have hX := HJ1.out.2.1
    cases hwg : wb g 127 with
    | false =>
      rw [hwg] at HW2
      go_wp2_with (refine wpl_load_rowg (by rfl) 27 _ rfl (A + 1) rfl 27 (blk g) (0, 0) _ hX Try.underlying27 rfl (by rw [blk_size]; kernel_rfl) ?_)
      refine (HW2.out _).mono ?_
      rintro e w6 ⟨rfl, h6⟩
      have H6 := Lib.hid (HJ1.out.2.2.trans (h6.mono HJ1.out.2.2.size))
      clear h6 hX HJ1
      go_wp2_with fail
      refine (HA.out _).mono ?_
      rintro e w7 ⟨rfl, h7⟩
      have H7 := Lib.hid (H6.out.trans (h7.mono H6.out.size))
      clear h7
      go_wp2_with fail
      go_ret
      exact ⟨rfl, H7.out⟩
    | true =>
      rw [hwg] at HW2
      have bf := wb_true hwf
      have bg := wb_true hwg
      have HBf := Lib.hid bf
      have HBg := Lib.hid bg
      have HF1 := Lib.hid (fun w => fwd_in f w (fun n hn => by have := bf n hn; omega))
      have HF2 := Lib.hid (fun w => fwd_in g w (fun n hn => by have := bg n hn; omega))
      obtain ⟨s, hs⟩ : ∃ s : Nat → Int, s = fun n => f n + g n := ⟨_, rfl⟩
      have bs : ∀ n, n < 64 → -255 ≤ s n ∧ s n ≤ 255 := fun n hn => by have := bf n hn; have := bg n hn; rw [hs]; show -255 ≤ f n + g n ∧ f n + g n ≤ 255; omega
      have HF3 := Lib.hid (fun w => fwd_in s w bs)
      have HYs := Lib.hid (show ∀ n, FW s n = FW f n + FW g n from fun n => by rw [hs]; exact FW_add f g n)
      have HFb := Lib.hid (show ∀ n, n < 64 → (-1044480 ≤ FW f n ∧ FW f n ≤ 1044480) ∧ (-1044480 ≤ FW g n ∧ FW g n ≤ 1044480) from fun n hn =>
        ⟨by have := FW_most (B := 127) (by decide) bf n hn; omega, by have := FW_most (B := 127) (by decide) bg n hn; omega⟩)
      have HSn := Lib.hid (show ∀ n, s n = f n + g n from fun n => by rw [hs])
      clear bf bg bs hs hwf hwg HW1
      go_wp2_with (refine wpl_load_rowg (by rfl) 27 _ rfl (A + 1) rfl 27 (blk g) (0, 0) _ hX Try.underlying27 rfl (by rw [blk_size]; kernel_rfl) ?_)
      refine (HW2.out _).mono ?_
      rintro e w6 ⟨rfl, h6⟩
      have HJ2 := Lib.hid (And.intro (HJ1.out.1.below h6) (And.intro (HJ1.out.2.1.below h6) (HJ1.out.2.2.trans (h6.mono HJ1.out.2.2.size))))
      clear h6 hX HJ1 HW2
      go_upto_region 5 with fail
      show Code.wp _ _ _ _ (w6.alloc (Obj.cells (blk fun _ => 0) 27))
      have hA6 := HJ2.out.1.lt
      have hS6 := HJ2.out.2.2.size
      have HJ3 := Lib.hid (show Cel (w6.alloc (Obj.cells (blk fun _ => 0) 27)) A 27 (blk f) ∧ Cel (w6.alloc (Obj.cells (blk fun _ => 0) 27)) (A + 1) 27 (blk g) ∧ Cel (w6.alloc (Obj.cells (blk fun _ => 0) 27)) w6.heap.size 27 (blk fun _ => 0) ∧ Below W.heap.size W (w6.alloc (Obj.cells (blk fun _ => 0) 27)) from
        ⟨HJ2.out.1.alloc _, HJ2.out.2.1.alloc _, Cel.made _ _ _, HJ2.out.2.2.alloc HJ2.out.2.2.size _⟩)
      have hB6 := HJ2.out.2.1.lt
      generalize (w6.alloc (Obj.cells (blk fun _ => 0) 27)) = w7 at *
      generalize w6.heap.size = S at *
      clear HJ2
      go_wp2_with fail
      go_loopw [8] (fun a v => ∃ n : Nat, n ≤ 64 ∧ a = .int .i64 (n : Int) ∧ Cel v A 27 (blk f) ∧ Cel v (A + 1) 27 (blk g) ∧ Cel v S 27 (blk (xt s n)) ∧ Below W.heap.size W v) (fun a _ => 64 - (intOf a).toNat)
      case atStart => exact ⟨0, by decide, rfl, by rw [xt_zero]; exact HJ3.out⟩
      case round =>
        obtain ⟨n, hn, rfl, hJ⟩ := hrel
        have HJ := Lib.hid hJ
        clear hJ
        by_cases hlt : n < 64
        · have d1 : decide ((n : Int) < 64) = true := by simp; omega
          have r1 := cell_regrown ((HJ.out.1.cell n).trans (blk_at _ n hlt))
          have r2 := cell_regrown ((HJ.out.2.1.cell n).trans (blk_at _ n hlt))
          have b1 := HBf.out n hlt
          have b2 := HBg.out n hlt
          have HTe := Lib.hid (HSn.out n)
          generalize f n = x at *
          generalize g n = y at *
          have w1 := IntWalk.i64_in (x + y) (by omega)
          have g1 : (n : Int) < 64 := by omega
          go_upto_region 8 with fail
          refine wp_region_grow 9 3 #[.int .i64 0] (fun _ => False) (by kernel_rfl) (by kernel_rfl) (by kernel_rfl) alloc_int (by kernel_rfl) (fun _ _ _ _ _ _ _ _ _ h => h.elim) ?_
          simp only [List.take_succ_cons, List.take_zero]
          iterate 9 (refine lexW_step (fun K hK => ?_); simp only [isMade, keptAt]; go_simp; refine hK _ ?_; clear hK K)
          clear r1 r2 w1
          refine lexW_nil (Behind2.behind (ms := []) (ks := []) (mk := fun _ a => a) (by kernel_rfl) (by kernel_rfl) rfl (fun _ _ => by kernel_rfl) ⟨fun _ h => (by cases h), fun _ h => (by cases h), ?_⟩)
          intro β v3 hb3 _ _
          simp only [List.drop_succ_cons, List.drop_zero]
          have HJ4 := Lib.hid (show Cel v3 A 27 (blk f) ∧ Cel v3 (A + 1) 27 (blk g) ∧ Cel v3 S 27 (blk (xt s n)) ∧ Below W.heap.size W v3 from
            ⟨HJ.out.1.below hb3, HJ.out.2.1.below hb3, HJ.out.2.2.1.below hb3, HJ.out.2.2.2.trans (hb3.mono HJ.out.2.2.2.size)⟩)
          clear hb3 HJ
          have c2 := (HJ4.out.2.2.1.cell n).trans (blk_at _ n hlt)
          have f2 := HJ4.out.2.2.1.free n
          have hset := HJ4.out.2.2.1.store n (.int .i64 (s n))
          rw [blk_set, xt_up, HTe.out] at hset
          have HSet := Lib.hid (show Cel (v3.setCell ⟨S, n, none⟩ (.int .i64 (x + y))) A 27 (blk f) ∧ Cel (v3.setCell ⟨S, n, none⟩ (.int .i64 (x + y))) (A + 1) 27 (blk g) ∧ Cel (v3.setCell ⟨S, n, none⟩ (.int .i64 (x + y))) S 27 (blk (xt s (n + 1))) ∧ Below W.heap.size W (v3.setCell ⟨S, n, none⟩ (.int .i64 (x + y))) from
            ⟨HJ4.out.1.far (by show A ≠ S; omega) _, HJ4.out.2.1.far (by show A + 1 ≠ S; omega) _, hset, HJ4.out.2.2.2.setCell (by show W.heap.size ≤ S; omega) _⟩)
          clear hset HJ4
          go_wp2_with fail
          go_roundw
          case rel => exact ⟨n + 1, by omega, congrArg (Value.int .i64) (by omega), HSet.out⟩
          case measure => simp [intOf]; omega
        · have e : n = 64 := by omega
          subst e
          have hJ := HJ.out
          rw [show blk (xt s 64) = blk s from blk_congr fun m hm => by unfold xt; rw [if_pos hm]] at hJ
          have HK := Lib.hid hJ
          clear hJ HJ HJ3 hn hlt
          have hX := HK.out.1
          go_wp2_with (refine wpList_load_row rfl 27 _ rfl A rfl 27 (blk f) (0, 0) _ hX Try.underlying27 rfl (by rw [blk_size]; kernel_rfl) ?_)
          refine (HF1.out _).mono ?_
          rintro e v1 ⟨rfl, k1⟩
          have HK1 := Lib.hid (And.intro (HK.out.2.1.below k1) (And.intro (HK.out.2.2.1.below k1) (HK.out.2.2.2.trans (k1.mono HK.out.2.2.2.size))))
          clear k1 hX HK HF1
          go_upto_region 10 with (refine wpl_store_new rfl 27 _ _ rfl (blk (FW f)) 27 _ rfl rfl (by rw [blk_size]; kernel_rfl) (by rw [blk_size]; rfl) (blk_one _) ?_; intro v2 hc hcel hb; have HK2 := Lib.hid (And.intro hcel (And.intro (HK1.out.1.below hb) (And.intro (HK1.out.2.1.below hb) (HK1.out.2.2.trans (hb.mono HK1.out.2.2.size))))); clear hc hcel hb)
          generalize v1.heap.size = GA at *
          clear HK1
          have hX := HK2.out.2.1
          go_wp2_with (refine wpList_load_row rfl 27 _ rfl (A + 1) rfl 27 (blk g) (0, 0) _ hX Try.underlying27 rfl (by rw [blk_size]; kernel_rfl) ?_)
          refine (HF2.out _).mono ?_
          rintro e v3 ⟨rfl, k3⟩
          have HK3 := Lib.hid (And.intro (HK2.out.1.below k3) (And.intro (HK2.out.2.2.1.below k3) (HK2.out.2.2.2.trans (k3.mono HK2.out.2.2.2.size))))
          clear k3 hX HK2 HF2
          go_upto_region 11 with (refine wpl_store_new rfl 27 _ _ rfl (blk (FW g)) 27 _ rfl rfl (by rw [blk_size]; kernel_rfl) (by rw [blk_size]; rfl) (blk_one _) ?_; intro v4 hc hcel hb; have HK4 := Lib.hid (And.intro (HK3.out.1.below hb) (And.intro hcel (And.intro (HK3.out.2.1.below hb) (HK3.out.2.2.trans (hb.mono HK3.out.2.2.size))))); clear hc hcel hb)
          generalize v3.heap.size = GB at *
          clear HK3
          have hX := HK4.out.2.2.1
          go_wp2_with (refine wpList_load_row rfl 27 _ rfl S rfl 27 (blk s) (0, 0) _ hX Try.underlying27 rfl (by rw [blk_size]; kernel_rfl) ?_)
          refine (HF3.out _).mono ?_
          rintro e v5 ⟨rfl, k5⟩
          have HK5 := Lib.hid (And.intro (HK4.out.1.below k5) (And.intro (HK4.out.2.1.below k5) (HK4.out.2.2.2.trans (k5.mono HK4.out.2.2.2.size))))
          clear k5 hX HK4 HF3
          go_upto_region 12 with (refine wpl_store_new rfl 27 _ _ rfl (blk (FW s)) 27 _ rfl rfl (by rw [blk_size]; kernel_rfl) (by rw [blk_size]; rfl) (blk_one _) ?_; intro v6 hc hcel hb; have HK6 := Lib.hid (And.intro (HK5.out.1.below hb) (And.intro (HK5.out.2.1.below hb) (And.intro hcel (HK5.out.2.2.trans (hb.mono HK5.out.2.2.size))))); clear hc hcel hb)
          generalize v5.heap.size = GC at *
          clear HK5
          go_wp2_with fail
          go_loopw [15] (fun a v => ∃ n : Nat, n ≤ 64 ∧ a = .int .i64 (n : Int) ∧ Cel v GA 27 (blk (FW f)) ∧ Cel v GB 27 (blk (FW g)) ∧ Cel v GC 27 (blk (FW s)) ∧ Below W.heap.size W v) (fun a _ => 64 - (intOf a).toNat)
          case atStart => exact ⟨0, by decide, rfl, HK6.out⟩
          case round =>
            obtain ⟨n, hn, rfl, hJ⟩ := hrel
            have HJ := Lib.hid hJ
            clear hJ
            by_cases hlt : n < 64
            · have d1 : decide ((n : Int) < 64) = true := by simp; omega
              have r1 := cell_regrown ((HJ.out.1.cell n).trans (blk_at _ n hlt))
              have r2 := cell_regrown ((HJ.out.2.1.cell n).trans (blk_at _ n hlt))
              have r3 := cell_regrown ((HJ.out.2.2.1.cell n).trans (blk_at _ n hlt))
              have b1 := (HFb.out n hlt).1
              have b2 := (HFb.out n hlt).2
              rw [HYs.out n] at r3
              generalize FW f n = x at *
              generalize FW g n = y at *
              have w1 := IntWalk.i64_in (x + y) (by omega)
              have g1 : (n : Int) < 64 := by omega
              go_upto_region 17 with fail
              refine wp_region_grow 11 3 #[.int .i64 0] (fun _ => False) (by kernel_rfl) (by kernel_rfl) (by kernel_rfl) alloc_int (by kernel_rfl) (fun _ _ _ _ _ _ _ _ _ h => h.elim) ?_
              simp only [List.take_succ_cons, List.take_zero]
              iterate 11 (refine lexW_step (fun K hK => ?_); simp only [isMade, keptAt]; go_simp; refine hK _ ?_; clear hK K)
              clear r1 r2 r3 w1
              refine lexW_nil (Behind2.behind (ms := []) (ks := []) (tail := []) (mk := fun _ a => a) (by kernel_rfl) (by kernel_rfl) (by kernel_rfl) (fun _ _ => by kernel_rfl) ⟨fun _ h => (by cases h), fun _ h => (by cases h), ?_⟩)
              intro β v7 hb7 _ _
              unfold wpList
              have HJ4 := Lib.hid (show Cel v7 GA 27 (blk (FW f)) ∧ Cel v7 GB 27 (blk (FW g)) ∧ Cel v7 GC 27 (blk (FW s)) ∧ Below W.heap.size W v7 from
                ⟨HJ.out.1.below hb7, HJ.out.2.1.below hb7, HJ.out.2.2.1.below hb7, HJ.out.2.2.2.trans (hb7.mono HJ.out.2.2.2.size)⟩)
              clear hb7 HJ
              go_wp2_with fail
              go_roundw
              case rel => exact ⟨n + 1, by omega, congrArg (Value.int .i64) (by omega), HJ4.out⟩
              case measure => simp [intOf]; omega
            · have e : n = 64 := by omega
              subst e
              go_wp2_with fail
              refine (HA.out _).mono ?_
              rintro e v7 ⟨rfl, h7⟩
              have H7 := Lib.hid (HJ.out.2.2.2.trans (h7.mono HJ.out.2.2.2.size))
              clear h7
              go_wp2_with fail
              go_ret
              exact ⟨rfl, H7.out⟩
end Go.Proofs.Ytkecdfhpoeknkaa
