/- The laws' block, within, awake. -/
import Derived.Test.YtkecdfhpoeknkaaTfL
namespace Go.Proofs.Ytkecdfhpoeknkaa
set_option linter.unusedVariables false
set_option linter.unusedSimpArgs false
open Go.RowKit Go.Sort

/-- a list as a block -/
def bz (zs : List Int) (n : Nat) : Int := zs.getD n 0
theorem bz_bd {zs : List Int} (h : ∀ z ∈ zs, -9223372036854775808 ≤ z ∧ z ≤ 9223372036854775807) (n : Nat) : -9223372036854775808 ≤ bz zs n ∧ bz zs n ≤ 9223372036854775807 := by
  unfold bz
  rw [List.getD_eq_getElem?_getD]
  cases e : zs[n]? with
  | none => decide
  | some z => exact h z (List.mem_of_getElem? e)
theorem bz_at {zs : List Int} {n : Nat} {z : Int} (h : zs[n]? = some z) : bz zs n = z := by
  unfold bz
  rw [List.getD_eq_getElem?_getD, h]
  rfl
theorem xt_end (zs : List Int) (n : Nat) (h : n = 64 ∨ zs.length ≤ n) : blk (xt (bz zs) n) = blk (bz zs) := by
  apply blk_congr
  intro m hm
  unfold xt
  by_cases hlt : m < n
  · rw [if_pos hlt]
  · rw [if_neg hlt]
    unfold bz
    rw [List.getD_eq_getElem?_getD, List.getElem?_eq_none (by omega)]
    rfl
/-- a block that is being made, behind the result -/
def KInv (w : World) (g : Nat → Int) (v : World) : Prop :=
  Cel v w.heap.size 27 (blk fun _ => 0) ∧ Cel v (w.heap.size + 1) 27 (blk g) ∧ Below w.heap.size w v
theorem KInv.set {w v : World} {g : Nat → Int} (H : KInv w g v) (n : Nat) (z : Int) : KInv w (up g n z) (v.setCell ⟨w.heap.size + 1, n, none⟩ (.int .i64 z)) :=
  ⟨H.1.far (by show w.heap.size ≠ w.heap.size + 1; omega) _, by rw [← blk_set]; exact H.2.1.store n _, H.2.2.setCell (by show w.heap.size ≤ w.heap.size + 1; omega) _⟩

set_option maxRecDepth 20000 in
set_option maxHeartbeats 2000000 in
theorem block_c (zs : List Int) (v : Value) (w : World) (B : Nat) (hB : B ≤ w.heap.size) (h : Il w B v zs) :
    Calls Try.prog 18 #[v] w fun e w' => e = .returned (.agg (blk (bz zs))) ∧ Below w.heap.size w w' := by
  obtain ⟨A, c, rfl⟩ := h.len
  have H := Lib.hid h
  have HR0 := Lib.hid (Cel.made w 27 (blk fun _ => 0))
  clear h
  go_enter Try.func18, Try.ntmps18
  go_upto_region 2 with fail
  show Code.wp _ _ _ _ ((w.alloc (Obj.cells (blk fun _ => 0) 27)).alloc (Obj.cells (blk fun _ => 0) 27))
  have hI : KInv w (fun _ => 0) ((w.alloc (Obj.cells (blk fun _ => 0) 27)).alloc (Obj.cells (blk fun _ => 0) 27)) := by
    have c2 := Cel.made (w.alloc (Obj.cells (blk fun _ => 0) 27)) 27 (blk fun _ => 0)
    simp only [World.size_alloc] at c2
    exact ⟨HR0.out.alloc _, c2, ((Below.refl _ _).alloc (Nat.le_refl _) _).alloc (by simp only [World.size_alloc]; omega) _⟩
  generalize ((w.alloc (Obj.cells (blk fun _ => 0) 27)).alloc (Obj.cells (blk fun _ => 0) 27)) = W2 at *
  have HI0 := Lib.hid hI
  clear hI HR0
  have HL := Lib.hid (show ∃ L, zs.length = L from ⟨_, rfl⟩)
  go_wp2_with fail
  go_loopw [4] (fun a v => ∃ n : Nat, n ≤ 64 ∧ n ≤ zs.length ∧ a = .int .i64 (n : Int) ∧ KInv w (xt (bz zs) n) v) (fun a _ => 64 - (intOf a).toNat)
  case atStart => exact ⟨0, by decide, Nat.zero_le _, rfl, by rw [xt_zero]; exact HI0.out⟩
  case round =>
    obtain ⟨n, hn, hnl, rfl, hI⟩ := hrel
    have HI := Lib.hid hI
    clear hI
    have fin : ∀ g, blk g = blk (bz zs) → KInv w g wr → Cel (wr.setRow w.heap.size (blk (bz zs))) w.heap.size 27 (blk (bz zs)) ∧ Cel wr (w.heap.size + 1) 27 (blk (bz zs)) ∧ Cel wr w.heap.size 27 (blk fun _ => 0) ∧ Below w.heap.size w (wr.setRow w.heap.size (blk (bz zs))) := by
      intro g hg hK
      rw [KInv, hg] at hK
      obtain ⟨hres, hY, hb⟩ := hK
      refine ⟨setRow_heap wr w.heap.size _ _ _ _ hres, hY, hres, hb.os, hb.tape, hb.output, by rw [setRow_size]; exact hb.size, fun j hj => ?_⟩
      rw [setRow_other _ _ _ _ (by omega)]
      exact hb.block j hj
    by_cases hlt : n < 64
    · have d1 : decide ((n : Int) < 64) = true := by simp; omega
      by_cases hln : n < zs.length
      · have d2 : decide ((n : Int) < (zs.length : Int)) = true := by simp; omega
        obtain ⟨g, o, z, rfl, hgB, hz, hcell, hzb⟩ := H.out.at_ n hln
        have c1 : World.cell? wr ⟨g, o + n, none⟩ = some (.int .i64 z) := (HI.out.2.2.cell (p := ⟨g, o + n, none⟩) (by show g < w.heap.size; omega)).trans hcell
        have c2 := (HI.out.2.1.cell n).trans (blk_at _ n hlt)
        have f2 := HI.out.2.1.free n
        have hset := HI.out.set n (bz zs n)
        rw [xt_up, bz_at hz] at hset
        have HSet := Lib.hid hset
        clear hset hcell hz fin
        generalize zs.length = L at *
        go_wp2_with fail
        go_roundw
        case rel => exact ⟨n + 1, by omega, by omega, congrArg (Value.int .i64) (by omega), HSet.out⟩
        case measure => simp [intOf]; omega
      · have d2 : decide ((n : Int) < (zs.length : Int)) = false := by simp; omega
        obtain ⟨hrow, hY, hres, hW⟩ := fin _ (xt_end zs n (.inr (by omega))) HI.out
        have HRow := Lib.hid hrow
        have HW := Lib.hid hW
        clear hrow hW HI HI0 H HL fin
        go_wp2_with (first | (refine wpList_load_row rfl 27 _ rfl (w.heap.size + 1) rfl 27 (blk (bz zs)) (0, 0) _ hY Try.underlying27 rfl (by rw [blk_size]; kernel_rfl) ?_) | (refine wpList_store_row rfl 27 _ _ rfl w.heap.size (blk (bz zs)) rfl rfl 27 _ hres (by rw [blk_size]; kernel_rfl) (by simp only [blk_size]) (blk_one _) ?_))
        refine bodyPost_ret (v := .agg (blk (bz zs))) (by simp [results, Act.put, Try.results18, asAddr, run_loadVar_row _ _ _ _ _ _ _ HRow.out Try.underlying27 rfl (by rw [blk_size]; kernel_rfl)]) rfl ⟨rfl, HW.out⟩
    · have e : n = 64 := by omega
      subst e
      obtain ⟨hrow, hY, hres, hW⟩ := fin _ (xt_end zs 64 (.inl rfl)) HI.out
      have HRow := Lib.hid hrow
      have HW := Lib.hid hW
      clear hrow hW HI HI0 H HL fin
      go_wp2_with (first | (refine wpList_load_row rfl 27 _ rfl (w.heap.size + 1) rfl 27 (blk (bz zs)) (0, 0) _ hY Try.underlying27 rfl (by rw [blk_size]; kernel_rfl) ?_) | (refine wpList_store_row rfl 27 _ _ rfl w.heap.size (blk (bz zs)) rfl rfl 27 _ hres (by rw [blk_size]; kernel_rfl) (by simp only [blk_size]) (blk_one _) ?_))
      refine bodyPost_ret (v := .agg (blk (bz zs))) (by simp [results, Act.put, Try.results18, asAddr, run_loadVar_row _ _ _ _ _ _ _ HRow.out Try.underlying27 rfl (by rw [blk_size]; kernel_rfl)]) rfl ⟨rfl, HW.out⟩

set_option maxRecDepth 20000 in
set_option maxHeartbeats 2000000 in
theorem within_c (f : Nat → Int) (m : Int) (hm : 0 ≤ m ∧ m ≤ 9223372036854775807) (w : World) :
    Calls Try.prog 22 #[.agg (blk f), .int .i64 m] w fun e w' => e = .returned (.bool (wb f m)) ∧ Below w.heap.size w w' := by
  have HX0 := Lib.hid (Cel.made w 27 (blk f))
  have hB0 : Below w.heap.size w (w.alloc (Obj.cells (blk f) 27)) := (Below.refl _ _).alloc (Nat.le_refl _) _
  have HB0 := Lib.hid hB0
  clear hB0
  go_enter Try.func22, Try.ntmps22
  go_upto_region 1 with fail
  generalize (w.alloc (Obj.cells (blk f) 27)) = W1 at *
  have wm := IntWalk.i64_in (-m) (by omega)
  go_wp2_with fail
  go_loopw [4, 5] (fun r a v => ∃ n : Nat, n ≤ 64 ∧ r = .bool false ∧ a = .int .i64 (n : Int) ∧ v = W1 ∧ ∀ k, k < n → -m ≤ f k ∧ f k ≤ m) (fun _ a _ => 64 - (intOf a).toNat)
  case atStart => exact ⟨0, by decide, rfl, rfl, rfl, fun k h => absurd h (Nat.not_lt_zero k)⟩
  case round =>
    obtain ⟨n, hn, rfl, rfl, rfl, hall⟩ := hrel
    have HA := Lib.hid hall
    clear hall
    by_cases hlt : n < 64
    · have d1 : decide ((n : Int) < 64) = true := by simp; omega
      have c1 := (HX0.out.cell n).trans (blk_at f n hlt)
      by_cases hin : -m ≤ f n ∧ f n ≤ m
      · have HN := Lib.hid (show ∀ k, k < n + 1 → -m ≤ f k ∧ f k ≤ m from fun k hk => by
          by_cases e : k = n
          · subst e; exact hin
          · exact HA.out k (by omega))
        have d2 : decide (f n < -m) = false := by simp; omega
        have d3 : decide (m < f n) = false := by simp; omega
        clear hin
        generalize f n = z at *
        go_wp2_with fail
        go_roundw
        case rel => exact ⟨n + 1, by omega, rfl, congrArg (Value.int .i64) (by omega), by trivial, HN.out⟩
        case measure => simp [intOf]; omega
      · have HE := Lib.hid (wb_not n hlt hin)
        by_cases h1 : f n < -m
        · have d2 : decide (f n < -m) = true := by simpa using h1
          clear hin h1 HA
          generalize f n = z at *
          go_wp2_with fail
          go_ret
          exact ⟨by rw [HE.out]; rfl, HB0.out⟩
        · have d2 : decide (f n < -m) = false := by simpa using h1
          have d3 : decide (m < f n) = true := by simp; omega
          clear hin h1 HA
          generalize f n = z at *
          go_wp2_with fail
          go_ret
          exact ⟨by rw [HE.out]; rfl, HB0.out⟩
    · have e : n = 64 := by omega
      subst e
      have HE := Lib.hid (wb_of HA.out)
      clear HA
      go_wp2_with fail
      go_ret
      exact ⟨by rw [HE.out]; rfl, HB0.out⟩
end Go.Proofs.Ytkecdfhpoeknkaa
