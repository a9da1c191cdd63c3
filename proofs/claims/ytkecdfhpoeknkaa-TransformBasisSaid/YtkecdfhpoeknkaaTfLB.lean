/- The law of Basis. -/
import Derived.Test.YtkecdfhpoeknkaaTfK
namespace Go.Proofs.Ytkecdfhpoeknkaa
set_option linter.unusedVariables false
set_option linter.unusedSimpArgs false
open Go.RowKit Go.Sort

set_option maxRecDepth 20000 in
set_option maxHeartbeats 2000000 in
theorem lawBasis_c (W : World) (i k : Int) (_b0 : -9223372036854775808 ≤ i ∧ i ≤ 9223372036854775807) (_b1 : -9223372036854775808 ≤ k ∧ k ≤ 9223372036854775807) :
    Calls Try.prog 3 #[.int .i64 i, .int .i64 k] W fun e w' => e = .returned (.bool true) ∧ Below W.heap.size W w' := by
  have HA := Lib.hid awake_c
  have HCB := Lib.hid cbasis_c
  have HRB := Lib.hid basis_c
  have HCN := Lib.hid cnorm_c
  have HRN := Lib.hid norm_c
  by_cases hin : 0 ≤ i ∧ i < 8 ∧ 0 ≤ k ∧ k < 8 ∧ i ≠ k
  · obtain ⟨a1, a2, a3, a4, a5⟩ := hin
    obtain ⟨p, rfl⟩ := Int.eq_ofNat_of_zero_le a1
    obtain ⟨q, rfl⟩ := Int.eq_ofNat_of_zero_le a3
    have hp : p < 8 := by omega
    have hq : q < 8 := by omega
    have hpq : p ≠ q := by omega
    obtain ⟨f, hf⟩ : ∃ f : Nat → Int, f = fun n : Nat => TF.tm p n * TF.tm q n := ⟨_, rfl⟩
    have HS := Lib.hid (show ∀ n : Nat, -(144 * (n : Int)) ≤ sm f n ∧ sm f n ≤ 144 * n from sm_bd f 144 (fun n => by
      rw [hf]
      have := prod_bd (TF.tm p n) (TF.tm q n) 12 (tm_any p n) (tm_any q n)
      exact this))
    have HZ := Lib.hid (show sm f 8 = 0 by rw [sm_s8, hf]; have := TF.rows p q hp hq; rwa [if_neg hpq] at this)
    have HN := Lib.hid (show ∀ n, sm f (n + 1) = sm f n + TF.tm p n * TF.tm q n from fun n => by rw [hf]; rfl)
    clear hf
    have d1 : decide ((p : Int) < 0) = false := by simp
    have d2 : decide ((7 : Int) < p) = false := by simp; omega
    have d3 : decide ((q : Int) < 0) = false := by simp
    have d4 : decide ((7 : Int) < q) = false := by simp; omega
    have d5 : ((p : Int) == (q : Int)) = false := by simp; omega
    clear a1 a2 a3 a4 a5
    go_enter Try.func3, Try.ntmps3
    go_wp2_with fail
    refine (HCB.out _ _ _).mono ?_
    rintro e w1 ⟨rfl, h1⟩
    have H1 := Lib.hid h1
    clear h1
    go_wp2_with fail
    refine (HRB.out _ _ _).mono ?_
    rintro e w2 ⟨rfl, h2⟩
    have H2 := Lib.hid (H1.out.trans (h2.mono H1.out.size))
    clear h2
    generalize tz (p : Int) (q : Int) = z at *
    go_wp2_with fail
    refine (HCN.out _ _).mono ?_
    rintro e w3 ⟨rfl, h3⟩
    have H3 := Lib.hid (H2.out.trans (h3.mono H2.out.size))
    clear h3
    go_wp2_with fail
    refine (HRN.out _ _).mono ?_
    rintro e w4 ⟨rfl, h4⟩
    have H4 := Lib.hid (H3.out.trans (h4.mono H3.out.size))
    clear h4
    generalize nz (p : Int) = z2 at *
    go_wp2_with fail
    go_loopw [5, 6] (fun s a v => ∃ n : Nat, n ≤ 8 ∧ s = .int .i64 (sm f n) ∧ a = .int .i64 (n : Int) ∧ Below W.heap.size W v) (fun _ a _ => 8 - (intOf a).toNat)
    case atStart => exact ⟨0, by decide, rfl, rfl, H4.out⟩
    case round =>
      obtain ⟨n, hn, rfl, rfl, hb⟩ := hrel
      have HB := Lib.hid hb
      clear hb
      by_cases hlt : n < 8
      · have dn : decide ((n : Int) < 8) = true := by simp; omega
        have s1 := HS.out n
        have t1 := tm_any p n
        have t2 := tm_any q n
        have hpr := prod_bd (TF.tm p n) (TF.tm q n) 12 t1 t2
        have hN := HN.out n
        have hb1 := fun w => HCB.out (p : Int) (n : Int) w
        rw [tz_in p n hp hlt] at hb1
        have hb2 := fun w => HCB.out (q : Int) (n : Int) w
        rw [tz_in q n hq hlt] at hb2
        have HNn := Lib.hid hN
        clear hN
        generalize TF.tm p n = t at *
        generalize TF.tm q n = u at *
        generalize hm : t * u = m at *
        have w4 := IntWalk.i64_in m (by omega)
        have w5 := IntWalk.i64_in (sm f n + m) (by omega)
        go_wp2_with fail
        refine (hb1 _).mono ?_
        rintro e v1 ⟨rfl, k1⟩
        have K1 := Lib.hid (HB.out.trans (k1.mono HB.out.size))
        clear k1
        go_wp2_with fail
        refine (hb2 _).mono ?_
        rintro e v2 ⟨rfl, k2⟩
        have K2 := Lib.hid (K1.out.trans (k2.mono K1.out.size))
        clear k2 hb1 hb2
        go_wp2_with fail
        go_roundw
        case rel => exact ⟨n + 1, by omega, by rw [HNn.out], congrArg (Value.int .i64) (by omega), K2.out⟩
        case measure => simp [intOf]; omega
      · have e : n = 8 := by omega
        subst e
        rw [HZ.out]
        go_wp2_with fail
        refine (HA.out _).mono ?_
        rintro e v1 ⟨rfl, k1⟩
        have K1 := Lib.hid (HB.out.trans (k1.mono HB.out.size))
        clear k1
        go_wp2_with fail
        go_ret
        exact ⟨rfl, K1.out⟩
  · have go : ∀ b1 b2 b3 b4 b5, decide (i < 0) = b1 → (b1 = false → decide (7 < i) = b2) → (b1 = false → b2 = false → decide (k < 0) = b3) → (b1 = false → b2 = false → b3 = false → decide (7 < k) = b4) → (b1 = false → b2 = false → b3 = false → b4 = false → (i == k) = b5) →
        (b1 = true ∨ (b1 = false ∧ b2 = true) ∨ (b1 = false ∧ b2 = false ∧ b3 = true) ∨ (b1 = false ∧ b2 = false ∧ b3 = false ∧ b4 = true) ∨ (b1 = false ∧ b2 = false ∧ b3 = false ∧ b4 = false ∧ b5 = true)) →
        Calls Try.prog 3 #[.int .i64 i, .int .i64 k] W fun e w' => e = .returned (.bool true) ∧ Below W.heap.size W w' := by
      intro b1 b2 b3 b4 b5 h1 h2 h3 h4 h5 h6
      clear hin
      rcases h6 with rfl | ⟨rfl, rfl⟩ | ⟨rfl, rfl, rfl⟩ | ⟨rfl, rfl, rfl, rfl⟩ | ⟨rfl, rfl, rfl, rfl, rfl⟩
      all_goals
        simp only [forall_const, Bool.true_eq_false, false_implies] at h2 h3 h4 h5
        go_enter Try.func3, Try.ntmps3
        go_wp2_with fail
        refine (HCB.out _ _ _).mono ?_
        rintro e w1 ⟨rfl, h1⟩
        have H1 := Lib.hid h1
        clear h1
        go_wp2_with fail
        refine (HRB.out _ _ _).mono ?_
        rintro e w2 ⟨rfl, h2⟩
        have H2 := Lib.hid (H1.out.trans (h2.mono H1.out.size))
        clear h2
        generalize tz i k = z at *
        go_wp2_with fail
        refine (HCN.out _ _).mono ?_
        rintro e w3 ⟨rfl, h3⟩
        have H3 := Lib.hid (H2.out.trans (h3.mono H2.out.size))
        clear h3
        go_wp2_with fail
        refine (HRN.out _ _).mono ?_
        rintro e w4 ⟨rfl, h4⟩
        have H4 := Lib.hid (H3.out.trans (h4.mono H3.out.size))
        clear h4
        generalize nz i = z2 at *
        go_wp2_with fail
        refine (HA.out _).mono ?_
        rintro e v1 ⟨rfl, k1⟩
        have K1 := Lib.hid (H4.out.trans (k1.mono H4.out.size))
        clear k1
        go_wp2_with fail
        go_ret
        exact ⟨rfl, K1.out⟩
    refine go _ _ _ _ _ rfl (fun _ => rfl) (fun _ _ => rfl) (fun _ _ _ => rfl) (fun _ _ _ _ => rfl) ?_
    simp
    omega
end Go.Proofs.Ytkecdfhpoeknkaa
