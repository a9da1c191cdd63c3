/- awake; methods of nil objects; the law BitioNil as a contract. -/
import Derived.Test.YtmogpacbfgiccaaBitC
import Derived.BigGuard
namespace Go.Proofs.Ytmogpacbfgiccaa
open Go.RowKit

theorem awake_pay : BM.pay ([] ++ BM.vbits 5 3) = [176] := by decide +kernel

set_option maxHeartbeats 400000 in
theorem awake_c (w : World) : Calls Try.prog 15 #[] w fun e w' => e = .returned (.bool true) ∧ Touch w w' (fun _ => False) := by
  go_enter Try.func15, Try.ntmps15
  go_wp2_with fail
  refine (new_c _).mono ?_
  rintro e w1 ⟨rfl, hW, hT⟩
  go_wp2_with fail
  refine (put_ok _ _ _ _ _ 5 3 hW (by decide) (by decide) (by decide) (by decide)).mono ?_
  rintro e w2 ⟨rfl, v2, hG⟩
  go_wp2_with fail
  refine (payload_c _ _ _ _ _ hG.wr (by simp [BM.length_vbits])).mono ?_
  rintro e w3 ⟨A, c, rfl, ho, ht⟩
  rw [awake_pay] at ho ⊢
  obtain ⟨g, cap, hv, hbg, hlt, hcap, hmax, hcell, hfree⟩ := own_some ho (by decide)
  simp only [Value.slice.injEq] at hv
  obtain ⟨rfl, _, rfl⟩ := hv
  have c0 : w3.cell? ⟨g, 0, none⟩ = some (.int .u8 176) := hcell 0 (by decide)
  have hall : Touch w w3 (fun _ => False) := by
    refine (hT.trans hG.touch ?_).trans ht (fun i hi => hi.elim)
    intro i hi
    rcases hi with rfl | hi
    · exact .inr (Nat.le_refl _)
    · simp [Value.ownBlock] at hi
  have Hall := Lib.hid hall
  clear hall hT hW hG ho ht hcell hfree
  go_wp2
  go_ret
  exact ⟨rfl, Hall.out⟩

theorem put_nil (w : World) (x n : Int) : Calls Try.prog 25 #[.pointer none, .int .u32 x, .int .i64 n] w fun e w' => e = .returned (.int .i64 1) ∧ w = w' := by
  go_enter Try.func25, Try.ntmps25
  go_wp2
  go_ret
  exact ⟨rfl, rfl⟩
theorem len_nil (w : World) : Calls Try.prog 23 #[.pointer none] w fun e w' => e = .returned (.int .i64 0) ∧ w = w' := by
  go_enter Try.func23, Try.ntmps23
  go_wp2
  go_ret
  exact ⟨rfl, rfl⟩
theorem payload_nil (w : World) : Calls Try.prog 12 #[.pointer none] w fun e w' => e = .returned (.slice none 0 0) ∧ w = w' := by
  go_enter Try.func12, Try.ntmps12
  go_wp2
  go_ret
  exact ⟨rfl, rfl⟩
theorem take_nil (w : World) (n : Int) : Calls Try.prog 21 #[.pointer none, .int .i64 n] w fun e w' => e = .returned (.tuple #[.int .u32 0, .int .i64 1]) ∧ w = w' := by
  go_enter Try.func21, Try.ntmps21
  go_wp2
  go_ret2
  exact ⟨rfl, rfl⟩
theorem left_nil (w : World) : Calls Try.prog 18 #[.pointer none] w fun e w' => e = .returned (.int .i64 0) ∧ w = w' := by
  go_enter Try.func18, Try.ntmps18
  go_wp2
  go_ret
  exact ⟨rfl, rfl⟩
theorem at_nil (w : World) : Calls Try.prog 20 #[.pointer none] w fun e w' => e = .returned (.int .i64 0) ∧ w = w' := by
  go_enter Try.func20, Try.ntmps20
  go_wp2
  go_ret
  exact ⟨rfl, rfl⟩

set_option maxHeartbeats 800000 in
theorem lawNil_c (w : World) : Calls Try.prog 8 #[] w fun e w' => e = .returned (.bool true) ∧ Touch w w' (fun _ => False) := by
  go_enter Try.func8, Try.ntmps8
  go_wp2_with fail
  refine (take_nil _ _).mono ?_
  rintro e w1 ⟨rfl, rfl⟩
  go_wp2_with fail
  refine (awake_c _).mono ?_
  rintro e w1 ⟨rfl, ht⟩
  have Ht := Lib.hid ht
  clear ht
  go_wp2_with fail
  refine (put_nil _ _ _).mono ?_
  rintro e w2 ⟨rfl, rfl⟩
  go_wp2_with fail
  refine (len_nil _).mono ?_
  rintro e w2 ⟨rfl, rfl⟩
  go_wp2_with fail
  refine (payload_nil _).mono ?_
  rintro e w2 ⟨rfl, rfl⟩
  go_wp2_with fail
  refine (left_nil _).mono ?_
  rintro e w2 ⟨rfl, rfl⟩
  go_wp2_with fail
  refine (at_nil _).mono ?_
  rintro e w2 ⟨rfl, rfl⟩
  go_wp2
  go_ret
  exact ⟨rfl, Ht.out⟩
end Go.Proofs.Ytmogpacbfgiccaa
