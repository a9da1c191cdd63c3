/- awake; the laws of Escape and Unescape. -/
import Derived.Test.YtpkjogjdacogeaaStV
namespace Go.Proofs.Ytpkjogjdacogeaa
open Go.RowKit
set_option linter.unusedVariables false
set_option linter.unusedSimpArgs false

theorem awake_c (w : World) : Calls Try.prog 10 #[] w fun e w' => e = .returned (.bool true) ∧ Touch w w' (fun _ => False) := by
  have h1 := Sl.made w [0, 0, 1]
  have e1 := esc_c _ _ _ h1 (by decide)
  have k1 : SM.escR [0, 0, 1] = [0, 0, 3, 1] := by decide
  have k2 : SM.escE [0, 0, 1] = 0 := by decide
  rw [k1, k2] at e1
  have H1 := Lib.hid e1
  clear h1 e1
  go_enter Try.func10, Try.ntmps10
  go_wp2_with fail
  refine H1.out.mono ?_
  rintro e w1 ⟨v1, rfl, ho1, ht1⟩
  have h2 := Sl.made w1 [0, 0, 3, 1]
  have h3 := ho1.sl.to ((Touch.refl w1 (fun _ => False)).alloc (.cells (by8 [0, 0, 3, 1]).toArray 5)) (fun _ _ _ h => h)
  have Hs := Lib.hid (same_c _ _ _ _ h3 h2)
  have Ht1 := Lib.hid ht1
  clear ho1 ht1 h2 h3
  go_wp2_with fail
  refine Hs.out.mono ?_
  rintro e w2 ⟨rfl, rfl⟩
  go_wp2_with fail
  go_ret
  exact ⟨rfl, (((Touch.refl w _).alloc _).trans Ht1.out (fun i hi => .inl hi)).alloc _⟩

theorem lawEscape_c (w : World) (v : Value) (p : List Nat) (h : Sl w v p) (hb : ∀ x ∈ p, x < 256) :
    Calls Try.prog 3 #[v] w fun e w' => e = .returned (.bool true) ∧ Touch w w' (fun _ => False) := by
  obtain ⟨A, c, rfl⟩ := h.len
  have H := Lib.hid h
  clear h
  by_cases hl : 2000 < p.length
  · go_enter Try.func3, Try.ntmps3
    go_wp2_with fail
    go_ret
    exact ⟨rfl, Touch.refl _ _⟩
  · have hl3 := SM.length_esc p 0
    go_enter Try.func3, Try.ntmps3
    go_wp2_with fail
    refine (esc_c _ _ p H.out (by omega)).mono ?_
    rintro e w1 ⟨v1, rfl, ho1, ht1⟩
    have Ho1 := Lib.hid ho1; have Ht1 := Lib.hid ht1
    clear ho1 ht1
    go_wp2_with fail
    refine (resc_c _ _ p (H.out.to Ht1.out (fun _ _ _ h => h)) (by omega)).mono ?_
    rintro e w2 ⟨v2, rfl, ho2, ht2⟩
    have Ho2 := Lib.hid ho2; have Ht2 := Lib.hid ht2
    clear ho2 ht2
    have Hs := Lib.hid (same_c w2 v1 v2 _ (Ho1.out.sl.to Ht2.out (fun _ _ _ h => h)) Ho2.out.sl)
    by_cases hz : SM.endz p = true
    · have e0 : SM.escE p = 3 := by unfold SM.escE; rw [if_pos hz]
      rw [e0]
      clear e0 hz
      go_wp2_with fail
      refine Hs.out.mono ?_
      rintro e w3 ⟨rfl, rfl⟩
      go_wp2_with fail
      refine (awake_c _).mono ?_
      rintro e w4 ⟨rfl, ht4⟩
      have Ht4 := Lib.hid ht4
      clear ht4
      go_wp2_with fail
      go_ret
      exact ⟨rfl, (Ht1.out.trans Ht2.out (fun i hi => .inl hi)).trans Ht4.out (fun i hi => .inl hi)⟩
    · have e0 : SM.escE p = 0 := by unfold SM.escE; rw [if_neg hz]
      have e1 : SM.escR p = SM.esc p := by unfold SM.escR; rw [if_neg hz]
      have e2 := SM.un_of_esc p (by simpa using hz)
      have e3 : SM.unR (SM.esc p) = p := by unfold SM.unR; rw [e2]; rfl
      have e4 : SM.unE (SM.esc p) = 0 := by unfold SM.unE; rw [e2]; rfl
      have ho1 := Ho1.out.sl.to Ht2.out (fun _ _ _ h => h)
      rw [e1] at ho1
      have hl4 : (SM.esc p).length ≤ 4000 := by have : (SM.esc p).length ≤ 2 * p.length := hl3; omega
      have hu := uns_c w2 v1 (SM.esc p) ho1 (by omega)
      rw [e3, e4] at hu
      rw [e0]
      have Hu := Lib.hid hu
      clear e0 e1 e2 e3 e4 ho1 hu hz hl3
      go_wp2_with fail
      refine Hs.out.mono ?_
      rintro e w3 ⟨rfl, rfl⟩
      go_wp2_with fail
      refine Hu.out.mono ?_
      rintro e w4 ⟨v4, rfl, ho4, ht4⟩
      have Ho4 := Lib.hid ho4; have Ht4 := Lib.hid ht4
      clear ho4 ht4
      go_wp2_with fail
      refine (awake_c _).mono ?_
      rintro e w5 ⟨rfl, ht5⟩
      have Ht5 := Lib.hid ht5
      clear ht5
      have hp5 := (((H.out.to Ht1.out (fun _ _ _ h => h)).to Ht2.out (fun _ _ _ h => h)).to Ht4.out (fun _ _ _ h => h)).to Ht5.out (fun _ _ _ h => h)
      have Hs2 := Lib.hid (same_c w5 _ v4 _ hp5 (Ho4.out.sl.to Ht5.out (fun _ _ _ h => h)))
      clear hp5
      go_wp2_with fail
      refine Hs2.out.mono ?_
      rintro e w6 ⟨rfl, rfl⟩
      go_wp2_with fail
      go_ret
      exact ⟨rfl, ((Ht1.out.trans Ht2.out (fun i hi => .inl hi)).trans Ht4.out (fun i hi => .inl hi)).trans Ht5.out (fun i hi => .inl hi)⟩

theorem lawUnescape_c (w : World) (v : Value) (p : List Nat) (h : Sl w v p) (hb : ∀ x ∈ p, x < 256) :
    Calls Try.prog 4 #[v] w fun e w' => e = .returned (.bool true) ∧ Touch w w' (fun _ => False) := by
  obtain ⟨A, c, rfl⟩ := h.len
  have H := Lib.hid h
  have Hb := Lib.hid hb
  clear h hb
  by_cases hl : 2000 < p.length
  · go_enter Try.func4, Try.ntmps4
    go_wp2_with fail
    go_ret
    exact ⟨rfl, Touch.refl _ _⟩
  · go_enter Try.func4, Try.ntmps4
    go_wp2_with fail
    refine (uns_c _ _ p H.out (by omega)).mono ?_
    rintro e w1 ⟨v1, rfl, ho1, ht1⟩
    have Ho1 := Lib.hid ho1; have Ht1 := Lib.hid ht1
    clear ho1 ht1
    go_wp2_with fail
    refine (runs_c _ _ p (H.out.to Ht1.out (fun _ _ _ h => h)) (by omega) Hb.out).mono ?_
    rintro e w2 ⟨v2, rfl, ho2, ht2⟩
    have Ho2 := Lib.hid ho2; have Ht2 := Lib.hid ht2
    clear ho2 ht2
    have Hs := Lib.hid (same_c w2 v1 v2 _ (Ho1.out.sl.to Ht2.out (fun _ _ _ h => h)) Ho2.out.sl)
    by_cases hz : (SM.un p).isSome = true
    · have e0 : SM.unE p = 0 := by unfold SM.unE; rw [if_pos hz]
      obtain ⟨q, hq⟩ := Option.isSome_iff_exists.1 hz
      obtain ⟨q1, q2⟩ := SM.esc_of_un p q hq
      have e1 : SM.unR p = q := by unfold SM.unR; rw [hq]; rfl
      have e3 : SM.escR q = p := by unfold SM.escR; rw [q2]; exact q1
      have e4 : SM.escE q = 0 := by unfold SM.escE; rw [q2]; rfl
      have ho1 := Ho1.out.sl.to Ht2.out (fun _ _ _ h => h)
      rw [e1] at ho1
      have hql : q.length ≤ p.length := by
        have := SM.length_st p 0
        rw [SM.un_st p hz] at e1
        rw [← e1]; exact this
      have hu := esc_c w2 v1 q ho1 (by omega)
      rw [e3, e4] at hu
      rw [e0]
      have Hu := Lib.hid hu
      clear e0 e1 e3 e4 ho1 hu hz hq q1 q2
      go_wp2_with fail
      refine Hs.out.mono ?_
      rintro e w3 ⟨rfl, rfl⟩
      go_wp2_with fail
      refine Hu.out.mono ?_
      rintro e w4 ⟨v4, rfl, ho4, ht4⟩
      have Ho4 := Lib.hid ho4; have Ht4 := Lib.hid ht4
      clear ho4 ht4
      go_wp2_with fail
      refine (awake_c _).mono ?_
      rintro e w5 ⟨rfl, ht5⟩
      have Ht5 := Lib.hid ht5
      clear ht5
      have hp5 := (((H.out.to Ht1.out (fun _ _ _ h => h)).to Ht2.out (fun _ _ _ h => h)).to Ht4.out (fun _ _ _ h => h)).to Ht5.out (fun _ _ _ h => h)
      have Hs2 := Lib.hid (same_c w5 _ v4 _ hp5 (Ho4.out.sl.to Ht5.out (fun _ _ _ h => h)))
      clear hp5
      go_wp2_with fail
      refine Hs2.out.mono ?_
      rintro e w6 ⟨rfl, rfl⟩
      go_wp2_with fail
      go_ret
      exact ⟨rfl, ((Ht1.out.trans Ht2.out (fun i hi => .inl hi)).trans Ht4.out (fun i hi => .inl hi)).trans Ht5.out (fun i hi => .inl hi)⟩
    · have e0 : SM.unE p = 3 := by unfold SM.unE; rw [if_neg hz]
      rw [e0]
      clear e0 hz
      go_wp2_with fail
      refine Hs.out.mono ?_
      rintro e w3 ⟨rfl, rfl⟩
      go_wp2_with fail
      refine (awake_c _).mono ?_
      rintro e w4 ⟨rfl, ht4⟩
      have Ht4 := Lib.hid ht4
      clear ht4
      go_wp2_with fail
      go_ret
      exact ⟨rfl, (Ht1.out.trans Ht2.out (fun i hi => .inl hi)).trans Ht4.out (fun i hi => .inl hi)⟩
end Go.Proofs.Ytpkjogjdacogeaa
