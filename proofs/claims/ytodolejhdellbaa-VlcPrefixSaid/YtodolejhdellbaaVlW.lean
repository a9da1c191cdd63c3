/- awake of chapter 4. -/
import Derived.Test.YtodolejhdellbaaVlA
import Derived.Test.YtodolejhdellbaaBitC
namespace Go.Proofs.Ytodolejhdellbaa
open Go.RowKit

theorem awake_pay : BM.pay ([] ++ BM.cu 7) = [17] := by decide +kernel
theorem awake_len : BM.blen 7 = 7 := by decide +kernel

set_option maxHeartbeats 400000 in
theorem awake_c (w : World) : Calls Try.prog 14 #[] w fun e w' => e = .returned (.bool true) ∧ Touch w w' (fun _ => False) := by
  have hbits := fun w => vbits_len_c w 7 (by decide) (by decide)
  rw [awake_len] at hbits
  go_enter Try.func14, Try.ntmps14
  go_wp2_with fail
  refine (new_c _).mono ?_
  rintro e w1 ⟨rfl, hW, hT⟩
  go_wp2_with fail
  refine (putu_c _ _ _ _ _ 7 hW (by decide) (by decide) (by decide)).mono ?_
  rintro e w2 ⟨rfl, v2, hG⟩
  rw [show BM.eu 7 = 0 from rfl]
  go_wp2_with fail
  refine (payload_c _ _ _ _ _ hG.wr (by have := BM.cu_short 7; simp; omega)).mono ?_
  rintro e w3 ⟨A, c, rfl, ho, ht⟩
  rw [awake_pay] at ho ⊢
  obtain ⟨g, cap, hv, hbg, hlt, hcap, hmax, hcell, hfree⟩ := own_some ho (by decide)
  simp only [Value.slice.injEq] at hv
  obtain ⟨rfl, _, rfl⟩ := hv
  have c0 : w3.cell? ⟨g, 0, none⟩ = some (.int .u8 17) := hcell 0 (by decide)
  have hall : Touch w w3 (fun _ => False) := by
    refine (hT.trans hG.touch ?_).trans ht (fun i hi => hi.elim)
    intro i hi
    rcases hi with rfl | hi
    · exact .inr (Nat.le_refl _)
    · simp [Value.ownBlock] at hi
  have Hall := Lib.hid hall
  have Hbits := Lib.hid hbits
  clear hall hT hW hG ho ht hcell hfree hbits
  go_wp2_with fail
  refine (Hbits.out _).mono ?_
  rintro e w4 ⟨rfl, rfl⟩
  go_wp2
  go_ret
  exact ⟨rfl, Hall.out⟩
end Go.Proofs.Ytodolejhdellbaa
