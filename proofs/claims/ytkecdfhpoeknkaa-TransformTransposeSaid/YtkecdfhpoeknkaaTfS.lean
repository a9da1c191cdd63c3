/- The code's scaledInverse. -/
import Derived.Test.YtkecdfhpoeknkaaTfN
import Derived.Test.YtkecdfhpoeknkaaTfP
namespace Go.Proofs.Ytkecdfhpoeknkaa
set_option linter.unusedVariables false
set_option linter.unusedSimpArgs false
open Go.RowKit Go.Sort

/-- the weighted columns as a block -/
def si (n : Nat) : Int := TF.tm (n % 8) (n / 8) * TF.mm (n % 8)
theorem si_at (k i : Nat) (hi : i < 8) : si (8 * k + i) = TF.tm i k * TF.mm i := by
  unfold si
  have a1 : (8 * k + i) / 8 = k := by omega
  have a2 : (8 * k + i) % 8 = i := by omega
  rw [a1, a2]
/-- what the loops keep: the result, the block that is made -/
def SInv (w : World) (g : Nat → Int) (v : World) : Prop :=
  Cel v w.heap.size 38 (blk fun _ => 0) ∧ Cel v (w.heap.size + 1) 38 (blk g) ∧ Below w.heap.size w v
theorem SInv.below {w v v' : World} {g : Nat → Int} (H : SInv w g v) (hb : Below v.heap.size v v') : SInv w g v' :=
  ⟨H.1.below hb, H.2.1.below hb, H.2.2.trans (hb.mono H.2.2.size)⟩
theorem SInv.set {w v : World} {g : Nat → Int} (H : SInv w g v) (n : Nat) (z : Int) : SInv w (up g n z) (v.setCell ⟨w.heap.size + 1, n, none⟩ (.int .i64 z)) :=
  ⟨H.1.far (by show w.heap.size ≠ w.heap.size + 1; omega) _, by rw [← blk_set]; exact H.2.1.store n _, H.2.2.setCell (by show w.heap.size ≤ w.heap.size + 1; omega) _⟩

set_option maxRecDepth 20000 in
set_option maxHeartbeats 2000000 in
theorem scaled_c (w : World) : Calls Try.prog 27 #[] w fun e w' => e = .returned (.agg (blk si)) ∧ Below w.heap.size w w' := by
  have HM := Lib.hid matrix_c
  have HN := Lib.hid cnorm_c
  have HI1 := Lib.hid (idx88 tb)
  have HR0 := Lib.hid (Cel.made w 38 (blk fun _ => 0))
  go_enter Try.func27, Try.ntmps27
  go_upto_region 2 with fail
  show Code.wp _ _ _ _ ((w.alloc (Obj.cells (blk fun _ => 0) 38)).alloc (Obj.cells (blk fun _ => 0) 38))
  have hI : SInv w (fun _ => 0) ((w.alloc (Obj.cells (blk fun _ => 0) 38)).alloc (Obj.cells (blk fun _ => 0) 38)) := by
    have c2 := Cel.made (w.alloc (Obj.cells (blk fun _ => 0) 38)) 38 (blk fun _ => 0)
    simp only [World.size_alloc] at c2
    exact ⟨HR0.out.alloc _, c2, ((Below.refl _ _).alloc (Nat.le_refl _) _).alloc (by simp only [World.size_alloc]; omega) _⟩
  generalize ((w.alloc (Obj.cells (blk fun _ => 0) 38)).alloc (Obj.cells (blk fun _ => 0) 38)) = W2 at *
  have HI00 := Lib.hid hI
  clear hI HR0
  go_wp2_with fail
  refine (HM.out _).mono ?_
  rintro e w1 ⟨rfl, hb1⟩
  have HI0 := Lib.hid (HI00.out.below hb1)
  clear hb1 HI00 HM
  go_wp2_with fail
  go_loopw [8] (fun b v => ∃ i : Nat, i ≤ 8 ∧ b = .int .i64 (i : Int) ∧ SInv w (cst si i 0) v) (fun b _ => 8 - (intOf b).toNat)
  case atStart => exact ⟨0, by decide, rfl, by rw [cst_zero]; exact HI0.out⟩
  case round =>
    obtain ⟨i, hi, rfl, hI⟩ := hrel
    have HI := Lib.hid hI
    clear hI
    by_cases hli : i < 8
    · have di : decide ((i : Int) < 8) = true := by simp; omega
      have i1 := HI1.out i hli
      clear hi
      go_wp2_with (refine wpl_store_new rfl 37 _ _ rfl (rw8 fun k => tb (8 * i + k)) 37 _ rfl rfl (by rw [rw8_size]; kernel_rfl) (by rw [rw8_size]; rfl) (rw8_one _) ?_; intro w3 hc hcel hb; have HJ3 := Lib.hid (show SInv w (cst si i 0) w3 ∧ Cel w3 wr.heap.size 37 (rw8 fun k => tb (8 * i + k)) from ⟨HI.out.below hb, hcel⟩); clear hc hcel hb)
      generalize wr.heap.size = R at *
      clear i1 HI
      refine (HN.out _ _).mono ?_
      rintro e w4 ⟨rfl, hb4⟩
      have HJ := Lib.hid (show SInv w (cst si i 0) w4 ∧ Cel w4 R 37 (rw8 fun k => tb (8 * i + k)) from ⟨HJ3.out.1.below hb4, HJ3.out.2.below hb4⟩)
      clear hb4 HJ3
      obtain ⟨z1, z2, z3, z4, z5, z6⟩ := nz_in i hli
      rw [z1]
      have HZ := Lib.hid (And.intro z1 z2)
      have I8 := Lib.hid (idx8 (fun k => tb (8 * i + k)))
      have hmm : ∃ m n, TF.mm i = m ∧ TF.nm i = n := ⟨_, _, rfl, rfl⟩
      obtain ⟨m, n, hm, hn⟩ := hmm
      have HMM := Lib.hid hm
      rw [hn] at z2 z3 z4 ⊢
      rw [hm] at z2 z5 z6
      clear z1 hm hn
      have n0 : (n == 0) = false := by simp; omega
      have g0 : ¬ n = 0 := by omega
      have w7 := IntWalk.i64_in m (by omega)
      have hrow := HJ.out.2
      go_wp2_with (refine wpList_load_row rfl 37 _ rfl R rfl 37 (rw8 fun k => tb (8 * i + k)) (0, 0) _ hrow Try.underlying37 rfl (by rw [rw8_size]; kernel_rfl) ?_)
      clear hrow n0 g0 w7 z2 z3 z4
      go_loopw [16] (fun b v => ∃ k : Nat, k ≤ 8 ∧ b = .int .i64 (k : Int) ∧ SInv w (cst si i k) v) (fun b _ => 8 - (intOf b).toNat)
      case atStart => exact ⟨0, by decide, rfl, HJ.out.1⟩
      case round =>
        obtain ⟨k, hk, rfl, hK⟩ := hrel
        clear HJ
        have HK := Lib.hid hK
        clear hK
        by_cases hlk : k < 8
        · have dl : decide ((k : Int) < 8) = true := by simp; omega
          have i1 := I8.out k hlk
          simp only [tb_at i k hlk] at i1
          have hm1 : k * 8 + i < 64 := by omega
          have c1 : World.cell? wr ⟨w.heap.size + 1, k * 8 + i, none⟩ = _ := (HK.out.2.1.cell (k * 8 + i)).trans (blk_at _ _ hm1)
          have f0 := HK.out.2.1.free (k * 8 + i)
          have hset := HK.out.set (8 * k + i) (si (8 * k + i))
          rw [cst_up _ _ _ hli, si_at k i hli, HMM.out, show 8 * k + i = k * 8 + i by omega] at hset
          have HSet := Lib.hid hset
          clear hset
          have b1 := wt_bd _ _ (tm_any i k) ⟨z5, z6⟩
          generalize TF.tm i k = t at *
          generalize hqq : t * m = q at *
          have w4 := IntWalk.i64_in q (by omega)
          go_wp2_with fail
          go_roundw
          case rel => exact ⟨k + 1, by omega, congrArg (Value.int .i64) (by omega), HSet.out⟩
          case measure => simp [intOf]; omega
        · have e : k = 8 := by omega
          subst e
          have hK := HK.out
          rw [SInv, cst_next] at hK
          have HK2 := Lib.hid (show SInv w (cst si (i + 1) 0) wr from hK)
          clear hK
          go_wp2_with fail
          go_roundw
          case rel => exact ⟨i + 1, by omega, congrArg (Value.int .i64) (by omega), HK2.out⟩
          case measure => simp [intOf]; omega
    · have e : i = 8 := by omega
      subst e
      have hI := HI.out
      rw [cst_all] at hI
      obtain ⟨hres, hY, hb⟩ := hI
      have HRow := Lib.hid (setRow_heap wr w.heap.size _ (blk si) _ _ hres)
      have hW : Below w.heap.size w (wr.setRow w.heap.size (blk si)) := by
        refine ⟨hb.os, hb.tape, hb.output, by rw [setRow_size]; exact hb.size, fun j hj => ?_⟩
        rw [setRow_other _ _ _ _ (by omega)]
        exact hb.block j hj
      have HW := Lib.hid hW
      clear hW hb HI HI0 HI1 HN
      go_wp2_with (first | (refine wpList_load_row rfl 38 _ rfl (w.heap.size + 1) rfl 38 (blk si) (0, 0) _ hY Try.underlying38 rfl (by rw [blk_size]; kernel_rfl) ?_) | (refine wpList_store_row rfl 38 _ _ rfl w.heap.size (blk si) rfl rfl 38 _ hres (by rw [blk_size]; kernel_rfl) (by simp only [blk_size]) (blk_one _) ?_))
      refine bodyPost_ret (v := .agg (blk si)) (by simp [results, Act.put, Try.results27, asAddr, run_loadVar_row _ _ _ _ _ _ _ HRow.out Try.underlying38 rfl (by rw [blk_size]; kernel_rfl)]) rfl ⟨rfl, HW.out⟩
end Go.Proofs.Ytkecdfhpoeknkaa
