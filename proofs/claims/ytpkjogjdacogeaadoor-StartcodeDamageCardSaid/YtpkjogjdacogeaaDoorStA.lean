/- awake. -/
import Derived.Test.YtpkjogjdacogeaaDoorStV
namespace Go.Proofs.YtpkjogjdacogeaaDoor
open Go.RowKit
set_option linter.unusedVariables false
set_option linter.unusedSimpArgs false

theorem awake_c (w : World) : Calls Tryd.prog 10 #[] w fun e w' => e = .returned (.bool true) ∧ Touch w w' (fun _ => False) := by
  have h1 := Sl.made w [0, 0, 1]
  have e1 := esc_c _ _ _ h1 (by decide)
  have k1 : SM.escR [0, 0, 1] = [0, 0, 3, 1] := by decide
  have k2 : SM.escE [0, 0, 1] = 0 := by decide
  rw [k1, k2] at e1
  have H1 := Lib.hid e1
  clear h1 e1
  go_enter Tryd.func10, Tryd.ntmps10
  go_wp2_with fail
  refine H1.out.mono ?_
  rintro e w1 ⟨v1, rfl, ho1, ht1⟩
  have h2 := Sl.made w1 [0, 0, 3, 1]
  have h3 := ho1.sl.to ((Touch.refl w1 (fun _ => False)).alloc (.cells (by8 [0, 0, 3, 1]).toArray 5)) (fun _ _ _ h => h)
  have Hs := Lib.hid (same_c _ _ _ _ h3 h2)
  have Ht1 := Lib.hid ht1
  clear ho1 ht1 h2 h3
  go_wp2_with fail
  refine Hs.out.mono ?_
  rintro e w2 ⟨rfl, rfl⟩
  go_wp2_with fail
  go_ret
  exact ⟨rfl, (((Touch.refl w _).alloc _).trans Ht1.out (fun i hi => .inl hi)).alloc _⟩

end Go.Proofs.YtpkjogjdacogeaaDoor
