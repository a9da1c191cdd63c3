/- The library's division of 128 by 64 bits. -/
import Derived.Test.YthcgcmmkajjhhaaDoorRatB1
import Derived.Test.YthcgcmmkajjhhaaDoorRatN3
namespace Go.Proofs.YthcgcmmkajjhhaaDoor
open Go.RowKit

theorem ret_utwo {a b c d : Int} (h1 : a = c) (h2 : b = d) : Ending.returned (.tuple #[.int .u64 c, .int .u64 d]) = .returned (.tuple #[.int .u64 a, .int .u64 b]) := by rw [h1, h2]

theorem lz_c (y : Int) (hy : 1 ≤ y ∧ y ≤ 18446744073709551615) (w : World) :
    Calls Tryd.prog 60 #[.int .u64 y] w fun e w' => e = .returned (.int .i64 (RM.lz y)) ∧ w = w' := by
  refine (Tryd.bits_LeadingZeros64 y w (by omega) (by omega)).mono ?_
  rintro e w' ⟨rfl, rfl⟩
  exact ⟨rfl, rfl⟩

set_option maxRecDepth 100000 in
set_option linter.unusedSimpArgs false in
set_option maxHeartbeats 400000 in
theorem div64_small (lo y : Int) (hy : 1 ≤ y ∧ y ≤ 18446744073709551615) (hl : 0 ≤ lo ∧ lo ≤ 18446744073709551615) (w : World) :
    Calls Tryd.prog 51 #[.int .u64 0, .int .u64 lo, .int .u64 y] w fun e w' => e = .returned (.tuple #[.int .u64 (lo / y), .int .u64 (lo % y)]) ∧ ∃ n, w' = w.drewN n := by
  have hy0 : ¬ y = 0 := by omega
  have g1 := Int.ediv_nonneg hl.1 (show 0 ≤ y by omega)
  have g2 := Int.ediv_le_self y hl.1
  have g3 := Int.emod_nonneg lo hy0
  have g4 := Int.emod_lt_of_pos lo (show 0 < y by omega)
  go_enter Tryd.func51, Tryd.ntmps51
  go_wp2
  go_quiet (fail)
  go_wp2
  go_ret2
  exact ⟨rfl, _, rfl⟩

theorem and_mask (Y : Int) (h : 0 ≤ Y ∧ Y ≤ 18446744073709551615) : bits .and .u64 Y 4294967295 = Y % 4294967296 := by
  obtain ⟨a, rfl⟩ := Int.eq_ofNat_of_zero_le h.1
  have e := u64_and_nat a 4294967295 (by omega) (by decide)
  rw [show ((4294967295 : Nat) : Int) = 4294967295 from rfl] at e
  rw [e, show (4294967295 : Nat) = 2 ^ 32 - 1 from rfl, Nat.and_two_pow_sub_one_eq_mod]
  simp

set_option maxRecDepth 100000 in
set_option linter.unusedSimpArgs false in
set_option maxHeartbeats 8000000 in
theorem div64_big (hi lo y : Int) (hh : 1 ≤ hi) (hy : hi < y ∧ y ≤ 18446744073709551615) (hl : 0 ≤ lo ∧ lo ≤ 18446744073709551615) (w : World) :
    Calls Tryd.prog 51 #[.int .u64 hi, .int .u64 lo, .int .u64 y] w fun e w' => e = .returned (.tuple #[.int .u64 (RM.dq hi lo y), .int .u64 (RM.dr hi lo y)]) ∧ w = w' := by
  obtain ⟨z1, z2, s, zs, zt, hs, p1, p2⟩ := RM.lz_facts y (by omega)
  obtain ⟨o1, o2, o3, o4, o5, o6, o7⟩ := RM.shifted hi lo y s hs (by omega) hy.1 hl p2
  have hLb := RM.u64_bd (lo * 2 ^ s)
  have eL := IntKind.wrap_u64 (lo * 2 ^ s)
  rw [← eL] at o7
  clear eL
  -- names for what the code computes
  have wY := IntWalk.u64_in (y * 2 ^ s) (by omega)
  have wH := IntWalk.u64_in (hi * 2 ^ s) (by omega)
  obtain ⟨Y, hYd⟩ : ∃ Y, y * 2 ^ s = Y := ⟨_, rfl⟩
  obtain ⟨U, hUd⟩ : ∃ U, hi * 2 ^ s + lo / 2 ^ (64 - s) = U := ⟨_, rfl⟩
  obtain ⟨L, hLd⟩ : ∃ L, IntKind.u64.wrap (lo * 2 ^ s) = L := ⟨_, rfl⟩
  rw [hUd] at o3 o6 o7
  rw [hYd] at o6 p1 p2 wY
  rw [hLd] at o7 hLb
  have hW := RM.k_whole hi lo y U L Y s hYd.symm (by omega) ⟨by omega, o6⟩ hLb o7
  obtain ⟨Y1, hY1⟩ : ∃ Y1, Y / 4294967296 = Y1 := ⟨_, rfl⟩
  have hY0 := and_mask Y (by omega)
  obtain ⟨Y0, hY0d⟩ : ∃ Y0, Y % 4294967296 = Y0 := ⟨_, rfl⟩
  rw [hY0d] at hY0
  have hL0 := and_mask L (by omega)
  obtain ⟨D1, hD1⟩ : ∃ D1, L / 4294967296 = D1 := ⟨_, rfl⟩
  obtain ⟨D0, hD0d⟩ : ∃ D0, L % 4294967296 = D0 := ⟨_, rfl⟩
  rw [hD0d] at hL0
  rw [hD1, hD0d] at hW
  have HYY := Lib.hid (show Y = Y1 * 4294967296 + Y0 by omega)
  have bY1 : 2147483648 ≤ Y1 ∧ Y1 ≤ 4294967295 := by omega
  have bY0 : 0 ≤ Y0 ∧ Y0 ≤ 4294967295 := by omega
  have bD1 : 0 ≤ D1 ∧ D1 ≤ 4294967295 := by omega
  have bD0 : 0 ≤ D0 ∧ D0 ≤ 4294967295 := by omega
  have bU : 0 ≤ U ∧ U < Y := ⟨by omega, o6⟩
  have HW := Lib.hid hW
  have cs := zs
  clear hW hY0d hD0d o1 o2 o4 o5 o6 o7 z1 z2 hLb
  have hYe := HYY.out
  clear HYY
  obtain ⟨q1, q2, q3, q4, q5, q6⟩ := RM.k_start Y Y1 Y0 U D1 hYe bY1.1 bY0 bU bD1
  have bK1 := RM.kq_bd Y U D1 (by omega) bU bD1
  have bV := RM.kr_bd Y U D1 (by omega)
  have rV := RM.k_rest Y U D1 (by omega)
  have T1 := Lib.hid (fun a b h => RM.k_test Y Y1 Y0 U D1 a b hYe bY1.1 bY0.1 h)
  obtain ⟨r1, r2, r3, r4, r5, r6⟩ := RM.k_start Y Y1 Y0 (RM.kr Y U D1) D0 hYe bY1.1 bY0 bV bD0
  have bK0 := RM.kq_bd Y (RM.kr Y U D1) D0 (by omega) bV bD0
  have bR := RM.kr_bd Y (RM.kr Y U D1) D0 (by omega)
  have rR := RM.k_rest Y (RM.kr Y U D1) D0 (by omega)
  have T0 := Lib.hid (fun a b h => RM.k_test Y Y1 Y0 (RM.kr Y U D1) D0 a b hYe bY1.1 bY0.1 h)
  have HWW := HW.out
  clear HW hYe
  generalize RM.kr Y (RM.kr Y U D1) D0 = R at *
  generalize RM.kq Y (RM.kr Y U D1) D0 = K0 at *
  generalize RM.kr Y U D1 = V at *
  generalize RM.kq Y U D1 = K1 at *
  have HW := Lib.hid HWW
  clear HWW
  have bP1 : 0 ≤ U / Y1 * Y1 ∧ U / Y1 * Y1 ≤ U ∧ U - U / Y1 * Y1 < Y1 := ⟨Int.mul_nonneg q3 (by omega), by omega, by omega⟩
  have HP1 := Lib.hid (show U / Y1 * Y1 + (U - U / Y1 * Y1) = U by omega)
  have bP0 : 0 ≤ V / Y1 * Y1 ∧ V / Y1 * Y1 ≤ V ∧ V - V / Y1 * Y1 < Y1 := ⟨Int.mul_nonneg r3 (by omega), by omega, by omega⟩
  have HP0 := Lib.hid (show V / Y1 * Y1 + (V - V / Y1 * Y1) = V by omega)
  clear q4 r4 q5 q6 r5 r6
  go_enter Tryd.func51, Tryd.ntmps51
  go_wp2_with (first | (go_at_call 60; refine (lz_c _ (by omega) _).mono ?_; rintro e w' ⟨rfl, rfl⟩))
  go_loop [15, 16] (fun q r => ∃ a b : Int, q = .int .u64 a ∧ r = .int .u64 b ∧ a * Y1 + b = U ∧ 0 ≤ b ∧ b ≤ 4294967295 ∧ K1 ≤ a ∧ a ≤ 4294967297) (fun q _ => (intOf q).toNat)
  case atStart => exact ⟨U / Y1, U - U / Y1 * Y1, rfl, rfl, HP1.out, by omega, by omega, by omega, by omega⟩
  case round =>
    obtain ⟨a1, b1, rfl, rfl, hinv, c1, c2, c3, c4⟩ := hrel
    have HI := Lib.hid hinv
    have ht := T1.out a1 b1 hinv
    have ht2 := T1.out (a1 - 1) (b1 + Y1) (RM.k_step Y1 _ a1 b1 hinv)
    have hs2 := Lib.hid (RM.k_step Y1 _ a1 b1 hinv)
    clear hinv
    by_cases d1 : 4294967296 ≤ a1
    · have hp2 := RM.k_prod (a1 - 1) Y0 (by omega) bY0
      by_cases d2 : b1 + Y1 < 4294967296
      · clear ht ht2 hp2
        go_wp2
        go_round
        case rel => exact ⟨a1 - 1, b1 + Y1, rfl, rfl, hs2.out, by omega, by omega, by omega, by omega⟩
        case measure => simp [intOf]; omega
      · have e1 : a1 - 1 = K1 := by omega
        clear ht ht2 hp2
        go_wp2
        go_loop [18, 16] (fun q r => ∃ a b : Int, q = .int .u64 a ∧ r = .int .u64 b ∧ a * Y1 + b = V ∧ 0 ≤ b ∧ b ≤ 4294967295 ∧ K0 ≤ a ∧ a ≤ 4294967297) (fun q _ => (intOf q).toNat)
        case atStart => exact ⟨V / Y1, V - V / Y1 * Y1, rfl, rfl, HP0.out, by omega, by omega, by omega, by omega⟩
        case round =>
          obtain ⟨a2, b2, rfl, rfl, hinv, c1, c2, c3, c4⟩ := hrel
          have HI := Lib.hid hinv
          have ht := T0.out a2 b2 hinv
          have ht2 := T0.out (a2 - 1) (b2 + Y1) (RM.k_step Y1 _ a2 b2 hinv)
          have hs2 := Lib.hid (RM.k_step Y1 _ a2 b2 hinv)
          clear hinv
          by_cases d1 : 4294967296 ≤ a2
          · have hp2 := RM.k_prod (a2 - 1) Y0 (by omega) bY0
            by_cases d2 : b2 + Y1 < 4294967296
            · clear ht ht2 hp2
              go_wp2
              go_round
              case rel => exact ⟨a2 - 1, b2 + Y1, rfl, rfl, hs2.out, by omega, by omega, by omega, by omega⟩
              case measure => simp [intOf]; omega
            · have e2 : a2 - 1 = K0 := by omega
              clear ht ht2 hp2
              go_wp2
              go_ret2
              exact ⟨ret_utwo (by rw [HW.out.1]) (by rw [HW.out.2]), rfl⟩
          · have hp1 := RM.k_prod a2 Y0 (by omega) bY0
            have hp2 : 0 ≤ (a2 - 1) * Y0 → (a2 - 1) * Y0 ≤ 18446744069414584320 := fun _ => by rw [Int.sub_mul]; omega
            by_cases d3 : b2 * 4294967296 + D0 < a2 * Y0
            · have d3' := Lib.hid (ht.2 d3)
              have d4 : 1 ≤ a2 := by have := ht.2 d3; omega
              have hp3 := RM.k_prod (a2 - 1) Y0 (by omega) bY0
              by_cases d2 : b2 + Y1 < 4294967296
              · have d5 := d3'.out
                clear ht ht2 hp2 hp3
                go_wp2
                go_round
                case rel => exact ⟨a2 - 1, b2 + Y1, rfl, rfl, hs2.out, by omega, by omega, by omega, by omega⟩
                case measure => simp [intOf]; omega
              · have e2 : a2 - 1 = K0 := by have := d3'.out; omega
                clear ht ht2 hp2 hp3
                go_wp2
                go_ret2
                exact ⟨ret_utwo (by rw [HW.out.1]) (by rw [HW.out.2]), rfl⟩
            · have e2 : K0 = a2 := by omega
              clear ht ht2 hp2
              subst e2
              go_wp2
              go_ret2
              exact ⟨ret_utwo (by rw [HW.out.1]) (by rw [HW.out.2]), rfl⟩
    · have hp1 := RM.k_prod a1 Y0 (by omega) bY0
      have hp2 : 0 ≤ (a1 - 1) * Y0 → (a1 - 1) * Y0 ≤ 18446744069414584320 := fun _ => by rw [Int.sub_mul]; omega
      by_cases d3 : b1 * 4294967296 + D1 < a1 * Y0
      · have d3' := Lib.hid (ht.2 d3)
        have d4 : 1 ≤ a1 := by have := ht.2 d3; omega
        have hp3 := RM.k_prod (a1 - 1) Y0 (by omega) bY0
        by_cases d2 : b1 + Y1 < 4294967296
        · have d5 := d3'.out
          clear ht ht2 hp2 hp3
          go_wp2
          go_round
          case rel => exact ⟨a1 - 1, b1 + Y1, rfl, rfl, hs2.out, by omega, by omega, by omega, by omega⟩
          case measure => simp [intOf]; omega
        · have e1 : a1 - 1 = K1 := by have := d3'.out; omega
          clear ht ht2 hp2 hp3
          go_wp2
          go_loop [18, 16] (fun q r => ∃ a b : Int, q = .int .u64 a ∧ r = .int .u64 b ∧ a * Y1 + b = V ∧ 0 ≤ b ∧ b ≤ 4294967295 ∧ K0 ≤ a ∧ a ≤ 4294967297) (fun q _ => (intOf q).toNat)
          case atStart => exact ⟨V / Y1, V - V / Y1 * Y1, rfl, rfl, HP0.out, by omega, by omega, by omega, by omega⟩
          case round =>
            obtain ⟨a2, b2, rfl, rfl, hinv, c1, c2, c3, c4⟩ := hrel
            have HI := Lib.hid hinv
            have ht := T0.out a2 b2 hinv
            have ht2 := T0.out (a2 - 1) (b2 + Y1) (RM.k_step Y1 _ a2 b2 hinv)
            have hs2 := Lib.hid (RM.k_step Y1 _ a2 b2 hinv)
            clear hinv
            by_cases d1 : 4294967296 ≤ a2
            · have hp2 := RM.k_prod (a2 - 1) Y0 (by omega) bY0
              by_cases d2 : b2 + Y1 < 4294967296
              · clear ht ht2 hp2
                go_wp2
                go_round
                case rel => exact ⟨a2 - 1, b2 + Y1, rfl, rfl, hs2.out, by omega, by omega, by omega, by omega⟩
                case measure => simp [intOf]; omega
              · have e2 : a2 - 1 = K0 := by omega
                clear ht ht2 hp2
                go_wp2
                go_ret2
                exact ⟨ret_utwo (by rw [HW.out.1]) (by rw [HW.out.2]), rfl⟩
            · have hp1 := RM.k_prod a2 Y0 (by omega) bY0
              have hp2 : 0 ≤ (a2 - 1) * Y0 → (a2 - 1) * Y0 ≤ 18446744069414584320 := fun _ => by rw [Int.sub_mul]; omega
              by_cases d3 : b2 * 4294967296 + D0 < a2 * Y0
              · have d3' := Lib.hid (ht.2 d3)
                have d4 : 1 ≤ a2 := by have := ht.2 d3; omega
                have hp3 := RM.k_prod (a2 - 1) Y0 (by omega) bY0
                by_cases d2 : b2 + Y1 < 4294967296
                · have d5 := d3'.out
                  clear ht ht2 hp2 hp3
                  go_wp2
                  go_round
                  case rel => exact ⟨a2 - 1, b2 + Y1, rfl, rfl, hs2.out, by omega, by omega, by omega, by omega⟩
                  case measure => simp [intOf]; omega
                · have e2 : a2 - 1 = K0 := by have := d3'.out; omega
                  clear ht ht2 hp2 hp3
                  go_wp2
                  go_ret2
                  exact ⟨ret_utwo (by rw [HW.out.1]) (by rw [HW.out.2]), rfl⟩
              · have e2 : K0 = a2 := by omega
                clear ht ht2 hp2
                subst e2
                go_wp2
                go_ret2
                exact ⟨ret_utwo (by rw [HW.out.1]) (by rw [HW.out.2]), rfl⟩
      · have e1 : K1 = a1 := by omega
        clear ht ht2 hp2
        subst e1
        go_wp2
        go_loop [18, 16] (fun q r => ∃ a b : Int, q = .int .u64 a ∧ r = .int .u64 b ∧ a * Y1 + b = V ∧ 0 ≤ b ∧ b ≤ 4294967295 ∧ K0 ≤ a ∧ a ≤ 4294967297) (fun q _ => (intOf q).toNat)
        case atStart => exact ⟨V / Y1, V - V / Y1 * Y1, rfl, rfl, HP0.out, by omega, by omega, by omega, by omega⟩
        case round =>
          obtain ⟨a2, b2, rfl, rfl, hinv, c1, c2, c3, c4⟩ := hrel
          have HI := Lib.hid hinv
          have ht := T0.out a2 b2 hinv
          have ht2 := T0.out (a2 - 1) (b2 + Y1) (RM.k_step Y1 _ a2 b2 hinv)
          have hs2 := Lib.hid (RM.k_step Y1 _ a2 b2 hinv)
          clear hinv
          by_cases d1 : 4294967296 ≤ a2
          · have hp2 := RM.k_prod (a2 - 1) Y0 (by omega) bY0
            by_cases d2 : b2 + Y1 < 4294967296
            · clear ht ht2 hp2
              go_wp2
              go_round
              case rel => exact ⟨a2 - 1, b2 + Y1, rfl, rfl, hs2.out, by omega, by omega, by omega, by omega⟩
              case measure => simp [intOf]; omega
            · have e2 : a2 - 1 = K0 := by omega
              clear ht ht2 hp2
              go_wp2
              go_ret2
              exact ⟨ret_utwo (by rw [HW.out.1]) (by rw [HW.out.2]), rfl⟩
          · have hp1 := RM.k_prod a2 Y0 (by omega) bY0
            have hp2 : 0 ≤ (a2 - 1) * Y0 → (a2 - 1) * Y0 ≤ 18446744069414584320 := fun _ => by rw [Int.sub_mul]; omega
            by_cases d3 : b2 * 4294967296 + D0 < a2 * Y0
            · have d3' := Lib.hid (ht.2 d3)
              have d4 : 1 ≤ a2 := by have := ht.2 d3; omega
              have hp3 := RM.k_prod (a2 - 1) Y0 (by omega) bY0
              by_cases d2 : b2 + Y1 < 4294967296
              · have d5 := d3'.out
                clear ht ht2 hp2 hp3
                go_wp2
                go_round
                case rel => exact ⟨a2 - 1, b2 + Y1, rfl, rfl, hs2.out, by omega, by omega, by omega, by omega⟩
                case measure => simp [intOf]; omega
              · have e2 : a2 - 1 = K0 := by have := d3'.out; omega
                clear ht ht2 hp2 hp3
                go_wp2
                go_ret2
                exact ⟨ret_utwo (by rw [HW.out.1]) (by rw [HW.out.2]), rfl⟩
            · have e2 : K0 = a2 := by omega
              clear ht ht2 hp2
              subst e2
              go_wp2
              go_ret2
              exact ⟨ret_utwo (by rw [HW.out.1]) (by rw [HW.out.2]), rfl⟩
end Go.Proofs.YthcgcmmkajjhhaaDoor
