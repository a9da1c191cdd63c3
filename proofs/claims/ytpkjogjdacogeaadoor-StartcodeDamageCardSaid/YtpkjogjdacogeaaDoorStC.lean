/- formed. -/
import Derived.Test.YtpkjogjdacogeaaDoorStO
import Derived.Test.YtpkjogjdacogeaaDoorStM2
namespace Go.Proofs.YtpkjogjdacogeaaDoor
open Go.RowKit
set_option linter.unusedVariables false
set_option linter.unusedSimpArgs false

/-- the answer of 'formed' -/
def FormedAns (w w' : World) (e : Ending) (us : List (Int × List Nat)) : Prop := ∃ b, e = .returned (.bool b) ∧ (b = true ↔ SM.Formed us) ∧ Touch w w' (fun _ => False)

namespace SM
theorem fmtE_iff (t : Int) (p : List Nat) : fmtE t p = 0 ↔ (1 ≤ t ∧ t ≤ 255) ∧ endz p = false := by
  unfold fmtE
  by_cases ht : t < 1 ∨ 255 < t
  · rw [if_pos ht]; simp; omega
  · rw [if_neg ht]
    by_cases hz : endz p = true
    · rw [if_pos hz, hz]; simp
    · rw [if_neg hz]; simp at hz ⊢; exact ⟨by omega, hz⟩
theorem fmtR_of {t : Int} {p : List Nat} (h : fmtE t p = 0) : fmtR t p = one (t, p) := by
  obtain ⟨h1, h2⟩ := (fmtE_iff t p).1 h
  unfold fmtR
  rw [if_neg (by omega), if_neg (by rw [h2]; simp)]
  rfl
end SM

set_option maxHeartbeats 400000 in
theorem formed_c (w : World) (B : Nat) (v : Value) (us : List (Int × List Nat)) (h : Us w B v us) (hB : B ≤ w.heap.size) :
    Calls Tryd.prog 11 #[v] w fun e w' => FormedAns w w' e us := by
  obtain ⟨A, c, rfl⟩ := h.len
  have H := Lib.hid h
  clear h
  by_cases hl : 20 < us.length
  · go_enter Tryd.func11, Tryd.ntmps11
    go_wp2_with fail
    go_ret
    exact ⟨_, rfl, ⟨fun h => (by cases h), fun h => by have := h.1; omega⟩, Touch.refl _ _⟩
  · go_enter Tryd.func11, Tryd.ntmps11
    go_wp2_with fail
    go_loopw [3] (fun i wr => ∃ k : Nat, k ≤ us.length ∧ i = .int .i64 (k : Int) ∧ (∀ q ∈ us.take k, SM.Fmd q) ∧ Touch w wr (fun _ => False)) (fun i _ => us.length - (intOf i).toNat)
    case atStart => exact ⟨0, Nat.zero_le _, rfl, by simp, Touch.refl _ _⟩
    case round =>
      obtain ⟨k, hk, rfl, hq, hT⟩ := hrel
      have HT := Lib.hid hT
      by_cases hlt : k < us.length
      · obtain ⟨g, o, t, bs, u, rfl, hg, huk, d0, d1, hsl, hlo, hb, ht1, ht2⟩ := (H.out.to hT hB (fun _ _ h => h)).at_ k hlt
        have hmem : (t, bs) ∈ us := List.mem_of_getElem? huk
        have hstep : us.take (k + 1) = us.take k ++ [(t, bs)] := by rw [List.take_add_one, huk]; rfl
        have hall : SM.Fmd (t, bs) → ∀ q ∈ us.take (k + 1), SM.Fmd q := by
          intro h q hq2
          rw [hstep, List.mem_append] at hq2
          rcases hq2 with h2 | h2
          · exact hq q h2
          · simp at h2; rw [h2]; exact h
        obtain ⟨A2, c2, rfl⟩ := hsl.len
        have Hsl := Lib.hid hsl
        have Hall := Lib.hid hall
        have Hmem := Lib.hid hmem
        clear hsl hstep hall hmem huk hq hT hlo hb
        by_cases hlen : 100 < bs.length
        · go_wp2_with fail
          go_ret
          exact ⟨_, rfl, ⟨fun h => (by cases h), fun h => by have : bs.length ≤ 100 := (h.2 _ Hmem.out).1; omega⟩, HT.out⟩
        · have hfm := rfmt_c wr t _ bs Hsl.out (by omega)
          by_cases he : SM.fmtE t bs = 0
          · rw [he] at hfm
            have Hfm := Lib.hid hfm
            have He := Lib.hid he
            clear hfm he
            go_wp2_with fail
            refine Hfm.out.mono ?_
            rintro e w1 ⟨v1, rfl, ho1, ht1'⟩
            have Ht1 := Lib.hid ht1'
            clear ho1 ht1'
            go_wp2_with fail
            go_roundw
            case rel => exact ⟨k + 1, by omega, by go_num, Hall.out ⟨by show bs.length ≤ 100; omega, (SM.fmtE_iff t bs).1 He.out⟩, HT.out.trans Ht1.out (fun i hi => .inl hi)⟩
            case measure => simp [intOf]; omega
          · have hne : (SM.fmtE t bs != 0) = true := by rw [bne_iff_ne]; exact he
            have Hfm := Lib.hid hfm
            have He := Lib.hid he
            clear hfm he
            go_wp2_with fail
            refine Hfm.out.mono ?_
            rintro e w1 ⟨v1, rfl, ho1, ht1'⟩
            have Ht1 := Lib.hid ht1'
            clear ho1 ht1'
            go_wp2_with fail
            go_ret
            refine ⟨_, rfl, ⟨fun h => (by cases h), fun h => ?_⟩, HT.out.trans Ht1.out (fun i hi => .inl hi)⟩
            exact absurd ((SM.fmtE_iff t bs).2 (h.2 _ Hmem.out).2) He.out
      · obtain rfl : k = us.length := by omega
        rw [List.take_length] at hq
        have Hq := Lib.hid hq
        clear hq hT
        go_wp2
        go_ret
        exact ⟨_, rfl, ⟨fun _ => ⟨by omega, Hq.out⟩, fun _ => rfl⟩, HT.out⟩

end Go.Proofs.YtpkjogjdacogeaaDoor
