/- The code's turnedProduct. -/
import Derived.Test.YtkecdfhpoeknkaaTfA
namespace Go.Proofs.Ytkecdfhpoeknkaa
set_option linter.unusedVariables false
set_option linter.unusedSimpArgs false
open Go.RowKit Go.Sort

/-- the transpose of the product -/
def tp (a x : Nat → Int) (n : Nat) : Int := TF.s8 fun k => a (8 * (n % 8) + k) * x (8 * k + n / 8)
/-- the first i columns, and l places of the next one -/
def cst (G : Nat → Int) (i l : Nat) : Nat → Int := fun n => if n % 8 < i ∨ (n % 8 = i ∧ n / 8 < l) then G n else 0
theorem cst_up (G : Nat → Int) (i l : Nat) (hi : i < 8) : up (cst G i l) (8 * l + i) (G (8 * l + i)) = cst G i (l + 1) := by
  funext m
  unfold up cst
  by_cases h : m = 8 * l + i
  · rw [if_pos h, if_pos (by omega), h]
  · rw [if_neg h]
    by_cases h2 : m % 8 < i ∨ (m % 8 = i ∧ m / 8 < l)
    · rw [if_pos h2, if_pos (by omega)]
    · rw [if_neg h2, if_neg (by omega)]
theorem cst_next (G : Nat → Int) (i : Nat) : blk (cst G i 8) = blk (cst G (i + 1) 0) := by
  apply blk_congr
  intro m hm
  unfold cst
  by_cases h2 : m % 8 < i + 1 ∨ (m % 8 = i + 1 ∧ m / 8 < 0)
  · rw [if_pos h2, if_pos (by omega)]
  · rw [if_neg h2, if_neg (by omega)]
theorem cst_zero (G : Nat → Int) : cst G 0 0 = fun _ => 0 := by funext m; unfold cst; rw [if_neg (by omega)]
theorem cst_all (G : Nat → Int) : cst G 8 0 = G := by funext m; unfold cst; rw [if_pos (by omega)]

/-- what the loops keep: the block that is read, the result, the block that is made -/
def PInv (w : World) (x g : Nat → Int) (v : World) : Prop :=
  Cel v (w.heap.size + 1) 27 (blk x) ∧ Cel v (w.heap.size + 2) 27 (blk fun _ => 0) ∧ Cel v (w.heap.size + 3) 27 (blk g) ∧ Below w.heap.size w v
theorem PInv.alloc {w v : World} {x g : Nat → Int} (H : PInv w x g v) (o : Obj) : PInv w x g (v.alloc o) :=
  ⟨H.1.alloc _, H.2.1.alloc _, H.2.2.1.alloc _, H.2.2.2.alloc H.2.2.2.size _⟩
theorem PInv.below {w v v' : World} {x g : Nat → Int} (H : PInv w x g v) (hb : Below v.heap.size v v') : PInv w x g v' :=
  ⟨H.1.below hb, H.2.1.below hb, H.2.2.1.below hb, H.2.2.2.trans (hb.mono H.2.2.2.size)⟩
theorem PInv.set {w v : World} {x g : Nat → Int} (H : PInv w x g v) (n : Nat) (z : Int) : PInv w x (up g n z) (v.setCell ⟨w.heap.size + 3, n, none⟩ (.int .i64 z)) :=
  ⟨H.1.far (by show w.heap.size + 1 ≠ w.heap.size + 3; omega) _, H.2.1.far (by show w.heap.size + 2 ≠ w.heap.size + 3; omega) _, by rw [← blk_set]; exact H.2.2.1.store n _, H.2.2.2.setCell (by show w.heap.size ≤ w.heap.size + 3; omega) _⟩
theorem PInv.lt {w v : World} {x g : Nat → Int} (H : PInv w x g v) : w.heap.size + 3 < v.heap.size := H.2.2.1.lt

set_option maxRecDepth 20000 in
set_option maxHeartbeats 2000000 in
theorem turned_c (a x : Nat → Int) (C : Int) (hC : ∀ n m, n < 64 → m < 64 → -C ≤ a n * x m ∧ a n * x m ≤ C) (h8 : 8 * C ≤ 4611686018427387904)
    (hx : ∀ n, n < 64 → -9223372036854775808 ≤ x n ∧ x n ≤ 9223372036854775807) (w : World) :
    Calls Try.prog 29 #[.agg (blk a), .agg (blk x)] w fun e w' => e = .returned (.agg (blk (tp a x))) ∧ Below w.heap.size w w' := by
  have HA0 := Lib.hid (Cel.made w 38 (blk a))
  have HX0 := Lib.hid (Cel.made (w.alloc (Obj.cells (blk a) 38)) 27 (blk x))
  have HC := Lib.hid hC
  have HXB := Lib.hid hx
  have HI1 := Lib.hid (idx88 a)
  have C0 : 0 ≤ C := by have := hC 0 0 (by decide) (by decide); omega
  clear hC hx
  obtain ⟨S, hS⟩ : ∃ S : Nat → Nat → Nat → Int, S = fun i l k => a (8 * i + k) * x (8 * k + l) := ⟨_, rfl⟩
  have HS := Lib.hid (show ∀ i l k, i < 8 → l < 8 → k ≤ 8 → -(C * 8) ≤ sm (S i l) k ∧ sm (S i l) k ≤ C * 8 from by
    intro i l k hi hl hk
    have key : ∀ k : Nat, k ≤ 8 → -(C * (k : Int)) ≤ sm (S i l) k ∧ sm (S i l) k ≤ C * (k : Int) := by
      intro k
      induction k with
      | zero => intro _; simp [sm]
      | succ k ih =>
        intro hk
        have ih := ih (by omega)
        have e : S i l k = a (8 * i + k) * x (8 * k + l) := by rw [hS]
        have bp := HC.out (8 * i + k) (8 * k + l) (by omega) (by omega)
        have e2 : C * ((k + 1 : Nat) : Int) = C * k + C := by rw [Int.natCast_add, Int.mul_add]; simp
        simp only [sm, e]
        omega
    have b1 := key k hk
    have b2 : C * (k : Int) ≤ C * 8 := Int.mul_le_mul_of_nonneg_left (by omega) C0
    omega)
  have HG := Lib.hid (show ∀ i l, i < 8 → l < 8 → sm (S i l) 8 = tp a x (8 * l + i) from by
    intro i l hi hl
    rw [sm_s8, hS]
    unfold tp
    have a1 : (8 * l + i) / 8 = l := by omega
    have a2 : (8 * l + i) % 8 = i := by omega
    rw [a1, a2])
  have HSn := Lib.hid (show ∀ i l k, sm (S i l) (k + 1) = sm (S i l) k + a (8 * i + k) * x (8 * k + l) from by intro i l k; rw [hS]; rfl)
  clear hS
  go_enter Try.func29, Try.ntmps29
  go_upto_region 2 with fail
  show Code.wp _ _ _ _ ((((w.alloc (Obj.cells (blk a) 38)).alloc (Obj.cells (blk x) 27)).alloc (Obj.cells (blk fun _ => 0) 27)).alloc (Obj.cells (blk fun _ => 0) 27))
  have hI : PInv w x (fun _ => 0) ((((w.alloc (Obj.cells (blk a) 38)).alloc (Obj.cells (blk x) 27)).alloc (Obj.cells (blk fun _ => 0) 27)).alloc (Obj.cells (blk fun _ => 0) 27)) := by
    have c1 := HX0.out
    have c2 := Cel.made ((w.alloc (Obj.cells (blk a) 38)).alloc (Obj.cells (blk x) 27)) 27 (blk fun _ => 0)
    have c3 := Cel.made (((w.alloc (Obj.cells (blk a) 38)).alloc (Obj.cells (blk x) 27)).alloc (Obj.cells (blk fun _ => 0) 27)) 27 (blk fun _ => 0)
    simp only [World.size_alloc] at c1 c2 c3
    exact ⟨(c1.alloc _).alloc _, c2.alloc _, c3, ((((Below.refl _ _).alloc (Nat.le_refl _) _).alloc (by simp only [World.size_alloc]; omega) _).alloc (by simp only [World.size_alloc]; omega) _).alloc (by simp only [World.size_alloc]; omega) _⟩
  have hA : Cel ((((w.alloc (Obj.cells (blk a) 38)).alloc (Obj.cells (blk x) 27)).alloc (Obj.cells (blk fun _ => 0) 27)).alloc (Obj.cells (blk fun _ => 0) 27)) w.heap.size 38 (blk a) := ((HA0.out.alloc _).alloc _).alloc _
  generalize ((((w.alloc (Obj.cells (blk a) 38)).alloc (Obj.cells (blk x) 27)).alloc (Obj.cells (blk fun _ => 0) 27)).alloc (Obj.cells (blk fun _ => 0) 27)) = W2 at *
  have HI0 := Lib.hid hI
  clear hI HX0 HA0
  go_wp2_with (refine wpList_load_row rfl 38 _ rfl w.heap.size rfl 38 (blk a) (0, 0) _ hA Try.underlying38 rfl (by rw [blk_size]; kernel_rfl) ?_)
  have HG' := HG
  go_loopw [13] (fun b v => ∃ i : Nat, i ≤ 8 ∧ b = .int .i64 (i : Int) ∧ PInv w x (cst (tp a x) i 0) v) (fun b _ => 8 - (intOf b).toNat)
  case atStart => exact ⟨0, by decide, rfl, by rw [cst_zero]; exact HI0.out⟩
  case round =>
    obtain ⟨i, hi, rfl, hI⟩ := hrel
    have HI := Lib.hid hI
    clear hI hA
    by_cases hli : i < 8
    · have di : decide ((i : Int) < 8) = true := by simp; omega
      have i1 := HI1.out i hli
      clear hi
      go_wp2_with (refine wpl_store_new rfl 37 _ _ rfl (rw8 fun k => a (8 * i + k)) 37 _ rfl rfl (by rw [rw8_size]; kernel_rfl) (by rw [rw8_size]; rfl) (rw8_one _) ?_; intro w3 hc hcel hb; have HJ := Lib.hid (show PInv w x (cst (tp a x) i 0) w3 ∧ Cel w3 wr.heap.size 37 (rw8 fun k => a (8 * i + k)) from ⟨HI.out.below hb, hcel⟩); clear hc hcel hb)
      generalize wr.heap.size = R at *
      have I8 := Lib.hid (idx8 (fun k => a (8 * i + k)))
      clear i1 HI1 HI
      go_loopw [17] (fun b v => ∃ l : Nat, l ≤ 8 ∧ b = .int .i64 (l : Int) ∧ PInv w x (cst (tp a x) i l) v ∧ Cel v R 37 (rw8 fun k => a (8 * i + k))) (fun b _ => 8 - (intOf b).toNat)
      case atStart => exact ⟨0, by decide, rfl, HJ.out⟩
      case round =>
        obtain ⟨l, hl, rfl, hJ⟩ := hrel
        clear HJ
        have HJ := Lib.hid hJ
        clear hJ
        by_cases hll : l < 8
        · have dl : decide ((l : Int) < 8) = true := by simp; omega
          have hrow := HJ.out.2
          go_wp2_with (refine wpList_load_row rfl 37 _ rfl R rfl 37 (rw8 fun k => a (8 * i + k)) (0, 0) _ hrow Try.underlying37 rfl (by rw [rw8_size]; kernel_rfl) ?_)
          clear hrow hl
          go_loopw [9, 21] (fun s b v => ∃ k : Nat, k ≤ 8 ∧ s = .int .i64 (sm (S i l) k) ∧ b = .int .i64 (k : Int) ∧ v = wr) (fun _ b _ => 8 - (intOf b).toNat)
          case atStart => exact ⟨0, by decide, rfl, rfl, rfl⟩
          case round =>
            obtain ⟨k, hk, rfl, rfl, rfl⟩ := hrel
            by_cases hlk : k < 8
            · have dk : decide ((k : Int) < 8) = true := by simp; omega
              have hm2 : 8 * k + l < 64 := by omega
              have c1 : World.cell? wr ⟨w.heap.size + 1, 8 * k + l, none⟩ = some (.int .i64 (x (8 * k + l))) := by rw [HJ.out.1.1.cell, blk_at _ _ hm2]
              have i1 := I8.out k hlk
              have b1 := HS.out i l k hli hll hk
              have b2 := HC.out (8 * i + k) (8 * k + l) (by omega) hm2
              have HT := Lib.hid (HSn.out i l k)
              have hxb := HXB.out _ hm2
              generalize sm (S i l) k = s at *
              generalize a (8 * i + k) = t at *
              generalize x (8 * k + l) = v at *
              generalize hpp : t * v = p at *
              have w1 := IntWalk.i64_in (8 * (k : Int)) (by omega)
              have w2 := IntWalk.i64_in (8 * (k : Int) + (l : Int)) (by omega)
              have w4 := IntWalk.i64_in p (by omega)
              have w5 := IntWalk.i64_in (s + p) (by omega)
              have n1 : (8 * (k : Int) + (l : Int)).toNat = 8 * k + l := by omega
              have g1 : 0 ≤ 8 * (k : Int) + (l : Int) := by omega
              have g2 : 8 * (k : Int) + (l : Int) < 64 := by omega
              go_wp2_with fail
              go_roundw
              case rel => exact ⟨k + 1, by omega, congrArg (Value.int .i64) (by rw [HT.out]), congrArg (Value.int .i64) (by omega), by trivial⟩
              case measure => simp [intOf]; omega
            · have e : k = 8 := by omega
              subst e
              have hv := HG.out i l hli hll
              have hm1 : 8 * l + i < 64 := by omega
              have c1 : World.cell? wr ⟨w.heap.size + 3, 8 * l + i, none⟩ = _ := (HJ.out.1.2.2.1.cell (8 * l + i)).trans (blk_at _ _ hm1)
              have f0 := HJ.out.1.2.2.1.free (8 * l + i)
              have hset := HJ.out.1.set (8 * l + i) (tp a x (8 * l + i))
              rw [cst_up _ _ _ hli] at hset
              have hRb : w.heap.size + 3 ≠ R := HJ.out.1.2.2.1.apart HJ.out.2 (by decide)
              have hrow2 := HJ.out.2.far (p := ⟨w.heap.size + 3, 8 * l + i, none⟩) (by show R ≠ w.heap.size + 3; omega) (.int .i64 (tp a x (8 * l + i)))
              have HSet := Lib.hid (And.intro hset hrow2)
              clear hset hrow2 hRb
              rw [hv]
              clear hv
              generalize tp a x (8 * l + i) = v at *
              have w1 := IntWalk.i64_in (8 * (l : Int)) (by omega)
              have w2 := IntWalk.i64_in (8 * (l : Int) + (i : Int)) (by omega)
              have n1 : (8 * (l : Int) + (i : Int)).toNat = 8 * l + i := by omega
              have g1 : 0 ≤ 8 * (l : Int) + (i : Int) := by omega
              have g2 : 8 * (l : Int) + (i : Int) < 64 := by omega
              go_wp2_with fail
              go_roundw
              case rel => exact ⟨l + 1, by omega, congrArg (Value.int .i64) (by omega), HSet.out⟩
              case measure => simp [intOf]; omega
        · have e : l = 8 := by omega
          subst e
          have hJ := HJ.out.1
          rw [PInv, cst_next] at hJ
          have HJ2 := Lib.hid (show PInv w x (cst (tp a x) (i + 1) 0) wr from hJ)
          clear hJ
          go_wp2_with fail
          go_roundw
          case rel => exact ⟨i + 1, by omega, congrArg (Value.int .i64) (by omega), HJ2.out⟩
          case measure => simp [intOf]; omega
    · have e : i = 8 := by omega
      subst e
      have hI := HI.out
      rw [cst_all] at hI
      obtain ⟨h1, hres, hY, hb⟩ := hI
      obtain ⟨y, hye⟩ : ∃ y, tp a x = y := ⟨_, rfl⟩
      rw [hye] at hY
      have HYe := Lib.hid hye
      clear hye
      have HRow := Lib.hid (setRow_heap wr (w.heap.size + 2) _ (blk y) _ _ hres)
      have hW : Below w.heap.size w (wr.setRow (w.heap.size + 2) (blk y)) := by
        refine ⟨hb.os, hb.tape, hb.output, by rw [setRow_size]; exact hb.size, fun j hj => ?_⟩
        rw [setRow_other _ _ _ _ (by omega)]
        exact hb.block j hj
      have HW := Lib.hid hW
      clear hW hb h1 HI HI0 HS HG HSn HC HI1
      go_wp2_with (first | (refine wpList_load_row rfl 27 _ rfl (w.heap.size + 3) rfl 27 (blk y) (0, 0) _ hY Try.underlying27 rfl (by rw [blk_size]; kernel_rfl) ?_) | (refine wpList_store_row rfl 27 _ _ rfl (w.heap.size + 2) (blk y) rfl rfl 27 _ hres (by rw [blk_size]; kernel_rfl) (by simp only [blk_size]) (blk_one _) ?_))
      refine bodyPost_ret (v := .agg (blk y)) (by simp [results, Act.put, Try.results29, asAddr, run_loadVar_row _ _ _ _ _ _ _ HRow.out Try.underlying27 rfl (by rw [blk_size]; kernel_rfl)]) rfl ⟨by rw [HYe.out], HW.out⟩
end Go.Proofs.Ytkecdfhpoeknkaa
