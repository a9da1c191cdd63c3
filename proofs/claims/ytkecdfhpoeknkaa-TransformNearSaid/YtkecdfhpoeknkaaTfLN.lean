/- The law of Near. -/
import Derived.Test.YtkecdfhpoeknkaaTfLE
namespace Go.Proofs.Ytkecdfhpoeknkaa
set_option linter.unusedVariables false
set_option linter.unusedSimpArgs false
open Go.RowKit Go.Sort

theorem near_fw {f : Nat → Int} (h : ∀ n, n < 64 → -2097152 ≤ f n ∧ f n ≤ 2097152) (n : Nat) (hn : n < 64) :
    2 * (FW (IV f) n - f n) ≤ TF.s8 (TF.ab (n / 8)) * TF.s8 (TF.ab (n % 8)) ∧ 2 * (f n - FW (IV f) n) ≤ TF.s8 (TF.ab (n / 8)) * TF.s8 (TF.ab (n % 8)) := by
  have hy := TF.nearest (fun i j => f (8 * i + j)) (n / 8) (n % 8) (by omega) (by omega)
  have e : FW (IV f) n = TF.fw (fun k l => TF.near (TF.iv (fun i j => f (8 * i + j)) k l)) (n / 8) (n % 8) := by
    unfold FW
    refine TF.fw_congr (fun k hk l hl => ?_) _ _
    unfold IV
    have a1 : (8 * k + l) / 8 = k := by omega
    have a2 : (8 * k + l) % 8 = l := by omega
    rw [a1, a2]
    refine congrArg TF.near (TF.iv_congr (fun i hi j hj => ?_) _ _)
    have := h (8 * i + j) (by omega)
    unfold cl
    omega
  have a3 : 8 * (n / 8) + n % 8 = n := by omega
  rw [← e] at hy
  simp only [a3] at hy
  exact hy
theorem ab_bd (i k : Nat) : 0 ≤ TF.ab i k ∧ TF.ab i k ≤ 12 := by
  unfold TF.ab
  have := tm_any i k
  omega
theorem sm_ab (i : Nat) : ∀ k : Nat, 0 ≤ sm (TF.ab i) k ∧ sm (TF.ab i) k ≤ 12 * k
  | 0 => by simp [sm]
  | k + 1 => by
    have ih := sm_ab i k
    have hk := ab_bd i k
    simp only [sm]
    omega

set_option maxRecDepth 20000 in
set_option maxHeartbeats 2000000 in
theorem lawNear_c (W : World) (v : Value) (zs : List Int) (h : Il W W.heap.size v zs) :
    Calls Try.prog 11 #[v] W fun e w' => e = .returned (.bool true) ∧ Below W.heap.size W w' := by
  have gA : ∀ o a u v, growAt Try.prog o a u v = growUpon Try.prog u v ((execOp a.eval o).run Try.prog u) := fun _ _ _ _ => rfl
  have gV : ∀ u v x w', growUpon Try.prog u v (.ok (.value x) w') = (w' = u ∧ x = v) := fun _ _ _ _ => rfl
  have gE : ∀ u v g args w', growUpon Try.prog u v (.ok (.enter g args) w') = (w' = u ∧ Calls Try.prog g args u (fun e w'' => e = .returned v ∧ Below u.heap.size u w'')) := fun _ _ _ _ _ => rfl
  have HA := Lib.hid awake_c
  have HBl := Lib.hid (block_c zs v W _ (Nat.le_refl _) h)
  have HC := Lib.hid (fun w => inv_c (bz zs) w (fun n _ => bz_bd h.1 n))
  have HW1 := Lib.hid (within_c (bz zs) 2097152 (by decide))
  have HW2 := Lib.hid (within_c (IV (bz zs)) 255 (by decide))
  clear h
  generalize bz zs = f at *
  go_enter Try.func11, Try.ntmps11
  go_wp2_with fail
  refine HBl.out.mono ?_
  rintro e w1 ⟨rfl, h1⟩
  have H1 := Lib.hid h1
  clear h1 HBl
  go_upto_region 2 with (refine wpl_store_new rfl 27 _ _ rfl (blk f) 27 _ rfl rfl (by rw [blk_size]; kernel_rfl) (by rw [blk_size]; rfl) (blk_one _) ?_; intro w2 hc hcel hb; have HK2 := Lib.hid (And.intro hcel (H1.out.trans (hb.mono H1.out.size))); clear hc hcel hb)
  generalize w1.heap.size = A at *
  clear H1
  have hX := HK2.out.1
  go_wp2_with (refine wpList_load_row rfl 27 _ rfl A rfl 27 (blk f) (0, 0) _ hX Try.underlying27 rfl (by rw [blk_size]; kernel_rfl) ?_)
  refine (HC.out _).mono ?_
  rintro e w3 ⟨rfl, h3⟩
  have HK3 := Lib.hid (And.intro (HK2.out.1.below h3) (HK2.out.2.trans (h3.mono HK2.out.2.size)))
  clear h3 hX HK2 HC
  go_upto_region 3 with (refine wpl_store_new rfl 27 _ _ rfl (blk (IV f)) 27 _ rfl rfl (by rw [blk_size]; kernel_rfl) (by rw [blk_size]; rfl) (blk_one _) ?_; intro w4 hc hcel hb; have HK4 := Lib.hid (And.intro (HK3.out.1.below hb) (And.intro hcel (HK3.out.2.trans (hb.mono HK3.out.2.size)))); clear hc hcel hb)
  generalize w3.heap.size = B at *
  clear HK3
  have hX := HK4.out.1
  cases hwf : wb f 2097152 with
  | false =>
    rw [hwf] at HW1
    go_wp2_with (refine wpList_load_row rfl 27 _ rfl A rfl 27 (blk f) (0, 0) _ hX Try.underlying27 rfl (by rw [blk_size]; kernel_rfl) ?_)
    refine (HW1.out _).mono ?_
    rintro e w5 ⟨rfl, h5⟩
    have H5 := Lib.hid (HK4.out.2.2.trans (h5.mono HK4.out.2.2.size))
    clear h5 hX HK4
    go_wp2_with fail
    refine (HA.out _).mono ?_
    rintro e wz ⟨rfl, hz⟩
    have HZ := Lib.hid (H5.out.trans (hz.mono H5.out.size))
    clear hz
    go_wp2_with fail
    go_ret
    exact ⟨rfl, HZ.out⟩
  | true =>
    rw [hwf] at HW1
    go_wp2_with (refine wpList_load_row rfl 27 _ rfl A rfl 27 (blk f) (0, 0) _ hX Try.underlying27 rfl (by rw [blk_size]; kernel_rfl) ?_)
    refine (HW1.out _).mono ?_
    rintro e w5 ⟨rfl, h5⟩
    have HK5 := Lib.hid (And.intro (HK4.out.1.below h5) (And.intro (HK4.out.2.1.below h5) (HK4.out.2.2.trans (h5.mono HK4.out.2.2.size))))
    clear h5 hX HK4 HW1
    have hX := HK5.out.2.1
    cases hwg : wb (IV f) 255 with
    | false =>
      rw [hwg] at HW2
      go_wp2_with (refine wpl_load_rowg (by rfl) 27 _ rfl B rfl 27 (blk (IV f)) (0, 0) _ hX Try.underlying27 rfl (by rw [blk_size]; kernel_rfl) ?_)
      refine (HW2.out _).mono ?_
      rintro e w6 ⟨rfl, h6⟩
      have H6 := Lib.hid (HK5.out.2.2.trans (h6.mono HK5.out.2.2.size))
      clear h6 hX HK5
      go_wp2_with fail
      refine (HA.out _).mono ?_
      rintro e wz ⟨rfl, hz⟩
      have HZ := Lib.hid (H6.out.trans (hz.mono H6.out.size))
      clear hz
      go_wp2_with fail
      go_ret
      exact ⟨rfl, HZ.out⟩
    | true =>
      rw [hwg] at HW2
      have bf := wb_true hwf
      have bg := wb_true hwg
      have HNr := Lib.hid (fun n hn => near_fw bf n hn)
      have HBf := Lib.hid bf
      have HFg := Lib.hid (fun n hn => FW_most (B := 255) (by decide) bg n hn)
      have HF1 := Lib.hid (fun w => fwd_in (IV f) w bg)
      clear bf bg hwf hwg
      obtain ⟨z, hz⟩ : ∃ z, FW (IV f) = z := ⟨_, rfl⟩
      rw [hz] at HNr HFg HF1
      clear hz
      go_wp2_with (refine wpl_load_rowg (by rfl) 27 _ rfl B rfl 27 (blk (IV f)) (0, 0) _ hX Try.underlying27 rfl (by rw [blk_size]; kernel_rfl) ?_)
      refine (HW2.out _).mono ?_
      rintro e w6 ⟨rfl, h6⟩
      have HK6 := Lib.hid (And.intro (HK5.out.1.below h6) (And.intro (HK5.out.2.1.below h6) (HK5.out.2.2.trans (h6.mono HK5.out.2.2.size))))
      clear h6 hX HK5 HW2
      have hX := HK6.out.2.1
      go_wp2_with (refine wpList_load_row rfl 27 _ rfl B rfl 27 (blk (IV f)) (0, 0) _ hX Try.underlying27 rfl (by rw [blk_size]; kernel_rfl) ?_)
      refine (HF1.out _).mono ?_
      rintro e w7 ⟨rfl, h7⟩
      have HK7 := Lib.hid (And.intro (HK6.out.1.below h7) (HK6.out.2.2.trans (h7.mono HK6.out.2.2.size)))
      clear h7 hX HK6 HF1
      go_upto_region 6 with (refine wpl_store_new rfl 27 _ _ rfl (blk z) 27 _ rfl rfl (by rw [blk_size]; kernel_rfl) (by rw [blk_size]; rfl) (blk_one _) ?_; intro w8 hc hcel hb; have HK8 := Lib.hid (And.intro (HK7.out.1.below hb) (And.intro hcel (HK7.out.2.trans (hb.mono HK7.out.2.size)))); clear hc hcel hb)
      generalize w7.heap.size = Z at *
      clear HK7
      generalize IV f = iv at *
      go_wp2_with fail
      go_loopw [7] (fun a v => ∃ n : Nat, n ≤ 64 ∧ a = .int .i64 (n : Int) ∧ Cel v A 27 (blk f) ∧ Cel v Z 27 (blk z) ∧ Below W.heap.size W v) (fun a _ => 64 - (intOf a).toNat)
      case atStart => exact ⟨0, by decide, rfl, HK8.out⟩
      case round =>
        obtain ⟨n, hn, rfl, hJ⟩ := hrel
        have HJ := Lib.hid hJ
        clear hJ
        by_cases hlt : n < 64
        · have d1 : decide ((n : Int) < 64) = true := by simp; omega
          have hNr := HNr.out n hlt
          have hbf := HBf.out n hlt
          have hbz := HFg.out n hlt
          have q8 : (n : Int) / 8 = ((n / 8 : Nat) : Int) := by omega
          have m8 := rem8 n
          have hi8 : n / 8 < 8 := by omega
          have hj8 : n % 8 < 8 := by omega
          generalize n / 8 = i at *
          generalize n % 8 = j at *
          have wi := IntWalk.i64_in (i : Int) (by omega)
          have wj := IntWalk.i64_in (j : Int) (by omega)
          have HNrr := Lib.hid hNr
          clear hNr
          go_wp2_with fail
          go_loopw [8, 9, 10] (fun a b c v => ∃ k : Nat, k ≤ 8 ∧ a = .int .i64 (sm (TF.ab i) k) ∧ b = .int .i64 (sm (TF.ab j) k) ∧ c = .int .i64 (k : Int) ∧ Cel v A 27 (blk f) ∧ Cel v Z 27 (blk z) ∧ Below W.heap.size W v) (fun _ _ c _ => 8 - (intOf c).toNat)
          case atStart => exact ⟨0, by decide, rfl, rfl, rfl, HJ.out⟩
          case round =>
            obtain ⟨k, hk, rfl, rfl, rfl, hK⟩ := hrel
            clear HJ
            have HK := Lib.hid hK
            clear hK
            by_cases hlk : k < 8
            · have dk : decide ((k : Int) < 8) = true := by simp; omega
              have hb1 := fun u => basis_c (i : Int) (k : Int) u
              rw [tz_in i k hi8 hlk] at hb1
              have hb2 := fun u => basis_c (j : Int) (k : Int) u
              rw [tz_in j k hj8 hlk] at hb2
              have t1b := tm_any i k
              have t2b := tm_any j k
              have sa := sm_ab i k
              have sb' := sm_ab j k
              have HTa := Lib.hid (show sm (TF.ab i) (k + 1) = sm (TF.ab i) k + ((TF.tm i k).natAbs : Int) from rfl)
              have HTb := Lib.hid (show sm (TF.ab j) (k + 1) = sm (TF.ab j) k + ((TF.tm j k).natAbs : Int) from rfl)
              generalize sm (TF.ab i) k = sa1 at *
              generalize sm (TF.ab j) k = sb at *
              generalize TF.tm i k = t1 at *
              generalize TF.tm j k = t2 at *
              go_wp2_with fail
              refine (hb1 _).mono ?_
              rintro e u1 ⟨rfl, q1⟩
              have HK3 := Lib.hid (And.intro (HK.out.1.below q1) (And.intro (HK.out.2.1.below q1) (HK.out.2.2.trans (q1.mono HK.out.2.2.size))))
              clear q1
              go_wp2_with fail
              refine (hb1 _).mono ?_
              rintro e u2 ⟨rfl, q2⟩
              have HK4 := Lib.hid (And.intro (HK3.out.1.below q2) (And.intro (HK3.out.2.1.below q2) (HK3.out.2.2.trans (q2.mono HK3.out.2.2.size))))
              clear q2 HK3
              rcases (by omega : t1 < -t1 ∨ -t1 ≤ t1) with c1 | c1
              · have wn1 := IntWalk.i64_in (-t1) (by omega)
                have wb1 := IntWalk.i64_in (sa1 + -t1) (by omega)
                go_wp2_with fail
                refine (hb2 _).mono ?_
                rintro e u3 ⟨rfl, q3⟩
                have HK5 := Lib.hid (And.intro (HK4.out.1.below q3) (And.intro (HK4.out.2.1.below q3) (HK4.out.2.2.trans (q3.mono HK4.out.2.2.size))))
                clear q3
                go_wp2_with fail
                refine (hb2 _).mono ?_
                rintro e u4 ⟨rfl, q4⟩
                have HK6 := Lib.hid (And.intro (HK5.out.1.below q4) (And.intro (HK5.out.2.1.below q4) (HK5.out.2.2.trans (q4.mono HK5.out.2.2.size))))
                clear q4 HK5
                rcases (by omega : t2 < -t2 ∨ -t2 ≤ t2) with c2 | c2
                · have wn2 := IntWalk.i64_in (-t2) (by omega)
                  have wb2 := IntWalk.i64_in (sb + -t2) (by omega)
                  go_wp2_with fail
                  go_roundw
                  case rel => exact ⟨k + 1, by omega, congrArg (Value.int .i64) (by rw [HTa.out]; omega), congrArg (Value.int .i64) (by rw [HTb.out]; omega), congrArg (Value.int .i64) (by omega), HK6.out⟩
                  case measure => simp [intOf]; omega
                · have wn2 := IntWalk.i64_in (-t2) (by omega)
                  have wb2 := IntWalk.i64_in (sb + t2) (by omega)
                  have c2n : ¬ t2 < -t2 := by omega
                  go_wp2_with fail
                  go_roundw
                  case rel => exact ⟨k + 1, by omega, congrArg (Value.int .i64) (by rw [HTa.out]; omega), congrArg (Value.int .i64) (by rw [HTb.out]; omega), congrArg (Value.int .i64) (by omega), HK6.out⟩
                  case measure => simp [intOf]; omega
              · have wn1 := IntWalk.i64_in (-t1) (by omega)
                have wb1 := IntWalk.i64_in (sa1 + t1) (by omega)
                have c1n : ¬ t1 < -t1 := by omega
                go_wp2_with fail
                refine (hb2 _).mono ?_
                rintro e u3 ⟨rfl, q3⟩
                have HK5 := Lib.hid (And.intro (HK4.out.1.below q3) (And.intro (HK4.out.2.1.below q3) (HK4.out.2.2.trans (q3.mono HK4.out.2.2.size))))
                clear q3
                go_wp2_with fail
                refine (hb2 _).mono ?_
                rintro e u4 ⟨rfl, q4⟩
                have HK6 := Lib.hid (And.intro (HK5.out.1.below q4) (And.intro (HK5.out.2.1.below q4) (HK5.out.2.2.trans (q4.mono HK5.out.2.2.size))))
                clear q4 HK5
                rcases (by omega : t2 < -t2 ∨ -t2 ≤ t2) with c2 | c2
                · have wn2 := IntWalk.i64_in (-t2) (by omega)
                  have wb2 := IntWalk.i64_in (sb + -t2) (by omega)
                  go_wp2_with fail
                  go_roundw
                  case rel => exact ⟨k + 1, by omega, congrArg (Value.int .i64) (by rw [HTa.out]; omega), congrArg (Value.int .i64) (by rw [HTb.out]; omega), congrArg (Value.int .i64) (by omega), HK6.out⟩
                  case measure => simp [intOf]; omega
                · have wn2 := IntWalk.i64_in (-t2) (by omega)
                  have wb2 := IntWalk.i64_in (sb + t2) (by omega)
                  have c2n : ¬ t2 < -t2 := by omega
                  go_wp2_with fail
                  go_roundw
                  case rel => exact ⟨k + 1, by omega, congrArg (Value.int .i64) (by rw [HTa.out]; omega), congrArg (Value.int .i64) (by rw [HTb.out]; omega), congrArg (Value.int .i64) (by omega), HK6.out⟩
                  case measure => simp [intOf]; omega
            · have e : k = 8 := by omega
              subst e
              have hNr := HNrr.out
              rw [← sm_s8, ← sm_s8] at hNr
              have sa := sm_ab i 8
              have sb' := sm_ab j 8
              generalize sm (TF.ab i) 8 = p at *
              generalize sm (TF.ab j) 8 = q at *
              have hpq : 0 ≤ p * q ∧ p * q ≤ 9216 := by
                refine ⟨Int.mul_nonneg sa.1 sb'.1, ?_⟩
                have := Int.mul_le_mul sa.2 sb'.2 sb'.1 (by omega)
                omega
              have r1 := cell_regrown ((HK.out.1.cell n).trans (blk_at _ n hlt))
              have r2 := cell_regrown ((HK.out.2.1.cell n).trans (blk_at _ n hlt))
              have g0 : (n : Int) < 64 := by omega
              generalize f n = y at *
              generalize z n = x at *
              generalize hm : p * q = m at *
              have w1 := IntWalk.i64_in (x - y) (by omega)
              have w2 := IntWalk.i64_in (2 * (x - y)) (by omega)
              have w3 := IntWalk.i64_in (y - x) (by omega)
              have w4 := IntWalk.i64_in (2 * (y - x)) (by omega)
              have w5 := IntWalk.i64_in m (by omega)
              have e1 : decide (m < 2 * (x - y)) = false := by simp; omega
              have e2 : decide (m < 2 * (y - x)) = false := by simp; omega
              clear HNrr
              go_upto_region 17 with fail
              refine wp_region_grow 26 3 #[.int .i64 0] (fun _ => False) (by kernel_rfl) (by kernel_rfl) (by kernel_rfl) alloc_int (by kernel_rfl) (fun _ _ _ _ _ _ _ _ _ h => h.elim) ?_
              simp only [List.take_succ_cons, List.take_zero]
              iterate 26 (refine lexW_step (fun K hK => ?_); simp only [isMade, keptAt]; go_simp; refine hK _ ?_; clear hK K)
              clear r1 r2 w1 w2 w3 w4 w5 e1 e2 q8 m8 wi wj
              refine lexW_nil (Behind2.behind (ms := []) (ks := []) (tail := []) (mk := fun _ a => a) (by kernel_rfl) (by kernel_rfl) (by kernel_rfl) (fun _ _ => by kernel_rfl) ⟨fun _ h => (by cases h), fun _ h => (by cases h), ?_⟩)
              intro β v7 hb7 _ _
              unfold wpList
              have HJ4 := Lib.hid (And.intro (HK.out.1.below hb7) (And.intro (HK.out.2.1.below hb7) (HK.out.2.2.trans (hb7.mono HK.out.2.2.size))))
              clear hb7 HK
              go_wp2_with fail
              go_roundw
              case rel => exact ⟨n + 1, by omega, congrArg (Value.int .i64) (by omega), HJ4.out⟩
              case measure => simp [intOf]; omega
        · have e : n = 64 := by omega
          subst e
          go_wp2_with fail
          refine (HA.out _).mono ?_
          rintro e wz ⟨rfl, hz⟩
          have HZ := Lib.hid (HJ.out.2.2.trans (hz.mono HJ.out.2.2.size))
          clear hz
          go_wp2_with fail
          go_ret
          exact ⟨rfl, HZ.out⟩
end Go.Proofs.Ytkecdfhpoeknkaa
