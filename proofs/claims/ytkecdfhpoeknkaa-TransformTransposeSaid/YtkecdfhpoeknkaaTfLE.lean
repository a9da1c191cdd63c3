/- The law of Energy. -/
import Derived.Test.YtkecdfhpoeknkaaTfLF
namespace Go.Proofs.Ytkecdfhpoeknkaa
set_option linter.unusedVariables false
set_option linter.unusedSimpArgs false
open Go.RowKit Go.Sort

theorem sm_eight (F : Nat → Int) (m : Nat) : sm F (m + 8) = sm F m + TF.s8 (fun j => F (m + j)) := by
  have e : sm F (m + 8) = sm F m + F m + F (m + 1) + F (m + 2) + F (m + 3) + F (m + 4) + F (m + 5) + F (m + 6) + F (m + 7) := rfl
  rw [e]
  simp only [TF.s8, Nat.add_zero]
  omega
theorem sm_64 (F : Nat → Int) : sm F 64 = TF.s8 fun i => TF.s8 fun j => F (8 * i + j) := by
  have h1 := sm_eight F 0
  have h2 := sm_eight F 8
  have h3 := sm_eight F 16
  have h4 := sm_eight F 24
  have h5 := sm_eight F 32
  have h6 := sm_eight F 40
  have h7 := sm_eight F 48
  have h8 := sm_eight F 56
  have h0 : sm F 0 = 0 := rfl
  simp only [Nat.zero_add] at h1
  rw [h0] at h1
  rw [h8, h7, h6, h5, h4, h3, h2, h1]
  show _ = TF.s8 (fun j => F (8 * 0 + j)) + TF.s8 (fun j => F (8 * 1 + j)) + TF.s8 (fun j => F (8 * 2 + j)) + TF.s8 (fun j => F (8 * 3 + j)) + TF.s8 (fun j => F (8 * 4 + j)) + TF.s8 (fun j => F (8 * 5 + j)) + TF.s8 (fun j => F (8 * 6 + j)) + TF.s8 (fun j => F (8 * 7 + j))
  simp only [Nat.mul_zero, Nat.zero_add, Nat.reduceMul, Int.zero_add]
theorem sm_bd2 (f : Nat → Int) (B : Int) (N : Nat) (h : ∀ k, k < N → -B ≤ f k ∧ f k ≤ B) : ∀ k : Nat, k ≤ N → -(B * k) ≤ sm f k ∧ sm f k ≤ B * k
  | 0, _ => by simp [sm]
  | k + 1, hk => by
    have ih := sm_bd2 f B N h k (by omega)
    have hk := h k (by omega)
    have e : B * ((k + 1 : Nat) : Int) = B * k + B := by rw [Int.natCast_add, Int.mul_add]; simp
    rw [e]
    simp only [sm]
    omega
theorem mul_bd (t x A B : Int) (hA : 0 ≤ A) (ht : -A ≤ t ∧ t ≤ A) (hx : -B ≤ x ∧ x ≤ B) : -(A * B) ≤ t * x ∧ t * x ≤ A * B := prod_bd2 t x A B hA ht hx

/-- the terms of the two sums -/
def eX (f : Nat → Int) (n : Nat) : Int := f n * f n
def eY (f : Nat → Int) (n : Nat) : Int := FW f n * FW f n * TF.mm (n / 8) * TF.mm (n % 8)
theorem e_same (f : Nat → Int) : sm (eY f) 64 = sm (eX f) 64 * 739840 * 739840 := by
  rw [sm_64, sm_64]
  have h := TF.energy (fun k l => f (8 * k + l))
  have e1 : TF.s8 (fun i => TF.s8 fun j => eY f (8 * i + j)) = TF.s8 fun i => TF.s8 fun j => TF.fw (fun k l => f (8 * k + l)) i j * TF.fw (fun k l => f (8 * k + l)) i j * TF.mm i * TF.mm j := by
    apply TF.s8_congr
    intro i hi
    apply TF.s8_congr
    intro j hj
    unfold eY FW
    have a1 : (8 * i + j) / 8 = i := by omega
    have a2 : (8 * i + j) % 8 = j := by omega
    rw [a1, a2]
  rw [e1, h]
  have e2 : TF.s8 (fun i => TF.s8 fun j => eX f (8 * i + j)) = TF.s8 fun k => TF.s8 fun l => f (8 * k + l) * f (8 * k + l) := rfl
  rw [e2]
  generalize TF.s8 (fun k => TF.s8 fun l => f (8 * k + l) * f (8 * k + l)) = q
  omega
theorem quo8 (n : Nat) : (n : Int).tdiv 8 = ((n / 8 : Nat) : Int) := by
  rw [Int.tdiv_eq_ediv_of_nonneg (by omega)]
  omega
theorem rem8 (n : Nat) : (n : Int).tmod 8 = ((n % 8 : Nat) : Int) := by
  rw [Int.tmod_eq_emod_of_nonneg (by omega)]
  omega

set_option maxRecDepth 20000 in
set_option maxHeartbeats 2000000 in
theorem lawEnergy_c (W : World) (v : Value) (zs : List Int) (h : Il W W.heap.size v zs) :
    Calls Try.prog 9 #[v] W fun e w' => e = .returned (.bool true) ∧ Below W.heap.size W w' := by
  have HA := Lib.hid awake_c
  have HBl := Lib.hid (block_c zs v W _ (Nat.le_refl _) h)
  have HW1 := Lib.hid (within_c (bz zs) 15 (by decide))
  clear h
  generalize bz zs = f at *
  go_enter Try.func9, Try.ntmps9
  go_wp2_with fail
  refine HBl.out.mono ?_
  rintro e w1 ⟨rfl, h1⟩
  have H1 := Lib.hid h1
  clear h1 HBl
  go_upto_region 2 with (refine wpl_store_new rfl 27 _ _ rfl (blk f) 27 _ rfl rfl (by rw [blk_size]; kernel_rfl) (by rw [blk_size]; rfl) (blk_one _) ?_; intro w2 hc hcel hb; have HK2 := Lib.hid (And.intro hcel (H1.out.trans (hb.mono H1.out.size))); clear hc hcel hb)
  generalize w1.heap.size = A at *
  clear H1
  have hX := HK2.out.1
  cases hwf : wb f 15 with
  | false =>
    rw [hwf] at HW1
    go_wp2_with (refine wpList_load_row rfl 27 _ rfl A rfl 27 (blk f) (0, 0) _ hX Try.underlying27 rfl (by rw [blk_size]; kernel_rfl) ?_)
    refine (HW1.out _).mono ?_
    rintro e w5 ⟨rfl, h5⟩
    have H5 := Lib.hid (HK2.out.2.trans (h5.mono HK2.out.2.size))
    clear h5 hX HK2
    go_wp2_with fail
    refine (HA.out _).mono ?_
    rintro e wz ⟨rfl, hz⟩
    have HZ := Lib.hid (H5.out.trans (hz.mono H5.out.size))
    clear hz
    go_wp2_with fail
    go_ret
    exact ⟨rfl, HZ.out⟩
  | true =>
    rw [hwf] at HW1
    have bf := wb_true hwf
    have HBf := Lib.hid bf
    have HF1 := Lib.hid (fun w => fwd_in f w (fun n hn => by have := bf n hn; omega))
    have HFb := Lib.hid (show ∀ n, n < 64 → -61440 ≤ FW f n ∧ FW f n ≤ 61440 from fun n hn => by have := FW_most (B := 15) (by decide) bf n hn; omega)
    have hXb : ∀ n, n < 64 → -225 ≤ eX f n ∧ eX f n ≤ 225 := fun n hn => mul_bd _ _ 15 15 (by decide) (bf n hn) (bf n hn)
    have hYb : ∀ n, n < 64 → (-3774873600 ≤ FW f n * FW f n ∧ FW f n * FW f n ≤ 3774873600) ∧ (-8727507763200 ≤ FW f n * FW f n * TF.mm (n / 8) ∧ FW f n * FW f n * TF.mm (n / 8) ≤ 8727507763200) ∧ (-20177997948518400 ≤ eY f n ∧ eY f n ≤ 20177997948518400) := by
      intro n hn
      have c1 := mul_bd _ _ 61440 61440 (by decide) (HFb.out n hn) (HFb.out n hn)
      have m1 := TF.mm_pos (n / 8) (by omega)
      have m2 := TF.mm_pos (n % 8) (by omega)
      have c2 := mul_bd _ (TF.mm (n / 8)) 3774873600 2312 (by decide) c1 (by omega)
      exact ⟨c1, c2, mul_bd _ (TF.mm (n % 8)) 8727507763200 2312 (by decide) c2 (by omega)⟩
    have HSX := Lib.hid (sm_bd2 (eX f) 225 64 hXb)
    have HSY := Lib.hid (sm_bd2 (eY f) 20177997948518400 64 (fun n hn => (hYb n hn).2.2))
    have HXb := Lib.hid hXb
    have HYb := Lib.hid hYb
    clear bf hXb hYb hwf
    go_wp2_with (refine wpList_load_row rfl 27 _ rfl A rfl 27 (blk f) (0, 0) _ hX Try.underlying27 rfl (by rw [blk_size]; kernel_rfl) ?_)
    refine (HW1.out _).mono ?_
    rintro e w3 ⟨rfl, h3⟩
    have HK3 := Lib.hid (And.intro (HK2.out.1.below h3) (HK2.out.2.trans (h3.mono HK2.out.2.size)))
    clear h3 hX HK2 HW1
    have hX := HK3.out.1
    go_wp2_with (refine wpList_load_row rfl 27 _ rfl A rfl 27 (blk f) (0, 0) _ hX Try.underlying27 rfl (by rw [blk_size]; kernel_rfl) ?_)
    refine (HF1.out _).mono ?_
    rintro e w4 ⟨rfl, h4⟩
    have HK4 := Lib.hid (And.intro (HK3.out.1.below h4) (HK3.out.2.trans (h4.mono HK3.out.2.size)))
    clear h4 hX HK3 HF1
    go_upto_region 5 with (refine wpl_store_new rfl 27 _ _ rfl (blk (FW f)) 27 _ rfl rfl (by rw [blk_size]; kernel_rfl) (by rw [blk_size]; rfl) (blk_one _) ?_; intro w5 hc hcel hb; have HK5 := Lib.hid (And.intro (HK4.out.1.below hb) (And.intro hcel (HK4.out.2.trans (hb.mono HK4.out.2.size)))); clear hc hcel hb)
    generalize w4.heap.size = B at *
    clear HK4
    go_wp2_with fail
    go_loopw [6, 7, 8] (fun a b c v => ∃ n : Nat, n ≤ 64 ∧ a = .int .i64 (sm (eX f) n) ∧ b = .int .i64 (sm (eY f) n) ∧ c = .int .i64 (n : Int) ∧ Cel v A 27 (blk f) ∧ Cel v B 27 (blk (FW f)) ∧ Below W.heap.size W v) (fun _ _ c _ => 64 - (intOf c).toNat)
    case atStart => exact ⟨0, by decide, rfl, rfl, rfl, HK5.out⟩
    case round =>
      obtain ⟨n, hn, rfl, rfl, rfl, hJ⟩ := hrel
      have HJ := Lib.hid hJ
      clear hJ
      by_cases hlt : n < 64
      · have d1 : decide ((n : Int) < 64) = true := by simp; omega
        have r1 := cell_regrown ((HJ.out.1.cell n).trans (blk_at _ n hlt))
        have g1 : (n : Int) < 64 := by omega
        have b1 := HBf.out n hlt
        have bx := HXb.out n hlt
        have sx := HSX.out n (by omega)
        have sx2 := HSX.out (n + 1) (by omega)
        have HTx := Lib.hid (show sm (eX f) (n + 1) = sm (eX f) n + f n * f n from rfl)
        unfold eX at bx
        generalize sm (eX f) n = a at *
        generalize f n = x at *
        generalize hpp : x * x = p at *
        have w1 := IntWalk.i64_in p (by omega)
        have w2 := IntWalk.i64_in (a + p) (by omega)
        go_upto_region 11 with fail
        refine wp_region_quiet_below (by kernel_rfl) (by kernel_rfl) ?_
        repeat (quiet_step (fail))
        refine wpQuiet_nil ?_
        intro w9 hw'
        obtain ⟨⟨dq, osq⟩, hw''⟩ := hw'
        have hbq := below_regrown wr dq osq
        rw [← hw''] at hbq
        have HJ2 := Lib.hid (And.intro (HJ.out.1.below hbq) (And.intro (HJ.out.2.1.below hbq) (HJ.out.2.2.trans (hbq.mono HJ.out.2.2.size))))
        clear hbq hw'' r1 w1 w2 HJ
        have r2 := cell_regrown ((HJ2.out.2.1.cell n).trans (blk_at _ n hlt))
        have by1 := (HYb.out n hlt).1
        have by2 := (HYb.out n hlt).2.1
        have by3 := (HYb.out n hlt).2.2
        have sy := HSY.out n (by omega)
        have sy2 := HSY.out (n + 1) (by omega)
        have HTy := Lib.hid (show sm (eY f) (n + 1) = sm (eY f) n + FW f n * FW f n * TF.mm (n / 8) * TF.mm (n % 8) from rfl)
        have hfy := HFb.out n hlt
        unfold eY at by3
        have hi8 : n / 8 < 8 := by omega
        have hj8 : n % 8 < 8 := by omega
        obtain ⟨z1, z2, z3, z4, z5, z6⟩ := nz_in (n / 8) hi8
        obtain ⟨y1, y2, y3, y4, y5, y6⟩ := nz_in (n % 8) hj8
        have hn1 := fun u => norm_c ((n / 8 : Nat) : Int) u
        have hn2 := fun u => norm_c ((n % 8 : Nat) : Int) u
        rw [z1] at hn1
        rw [y1] at hn2
        have q8 : (n : Int) / 8 = ((n / 8 : Nat) : Int) := by omega
        have m8 := rem8 n
        clear z1 y1 b1 bx sx sx2
        generalize sm (eY f) n = sA at *
        generalize FW f n = y at *
        generalize TF.mm (n / 8) = m1 at *
        generalize TF.mm (n % 8) = m2 at *
        generalize TF.nm (n / 8) = n1 at *
        generalize TF.nm (n % 8) = n2 at *
        generalize n / 8 = i at *
        generalize n % 8 = j at *
        have wi := IntWalk.i64_in (i : Int) (by omega)
        have wj := IntWalk.i64_in (j : Int) (by omega)
        generalize hp1 : y * y = p1 at *
        generalize hp2 : p1 * m1 = p2 at *
        generalize hp3 : p2 * m2 = p3 at *
        have w1 := IntWalk.i64_in p1 (by omega)
        have w2 := IntWalk.i64_in p2 (by omega)
        have w3 := IntWalk.i64_in p3 (by omega)
        have w4 := IntWalk.i64_in (sA + p3) (by omega)
        have w5 := IntWalk.i64_in m1 (by omega)
        have w6 := IntWalk.i64_in m2 (by omega)
        have k1 : (n1 == 0) = false := by simp; omega
        have k2 : (n2 == 0) = false := by simp; omega
        have k3 : ¬ n1 = 0 := by omega
        have k4 : ¬ n2 = 0 := by omega
        go_upto_region 12 with fail
        refine wp_region_quiet_below (by kernel_rfl) (by kernel_rfl) ?_
        repeat (quiet_step (first | (go_at_call 15; with_reducible exact Calls.regrown_of (hn1 _)) | (go_at_call 15; with_reducible exact Calls.regrown_of (hn2 _))))
        refine wpQuiet_nil ?_
        intro _ hw'
        obtain ⟨⟨dq, osq⟩, hw''⟩ := hw'
        have hbq := below_regrown w9 dq osq
        rw [← hw''] at hbq
        have HJ3 := Lib.hid (And.intro (HJ2.out.1.below hbq) (And.intro (HJ2.out.2.1.below hbq) (HJ2.out.2.2.trans (hbq.mono HJ2.out.2.2.size))))
        clear hbq hw'' r2 w1 w2 w3 w4 w5 w6 k1 k2 k3 k4 hn1 hn2 q8 m8 wi wj HJ2
        go_wp2_with fail
        go_roundw
        case rel => exact ⟨n + 1, by omega, by rw [HTx.out], by rw [HTy.out], congrArg (Value.int .i64) (by omega), HJ3.out⟩
        case measure => simp [intOf]; omega
      · have e : n = 64 := by omega
        subst e
        have sx := HSX.out 64 (by decide)
        have sy := HSY.out 64 (by decide)
        have hsame := e_same f
        generalize sm (eX f) 64 = a at *
        generalize sm (eY f) 64 = b at *
        have w1 := IntWalk.i64_in (a * 739840) (by omega)
        have w2 := IntWalk.i64_in (a * 739840 * 739840) (by omega)
        subst hsame
        go_wp2_with fail
        refine (HA.out _).mono ?_
        rintro e wz ⟨rfl, hz⟩
        have HZ := Lib.hid (HJ.out.2.2.trans (hz.mono HJ.out.2.2.size))
        clear hz
        go_wp2_with fail
        go_ret
        exact ⟨rfl, HZ.out⟩
end Go.Proofs.Ytkecdfhpoeknkaa
