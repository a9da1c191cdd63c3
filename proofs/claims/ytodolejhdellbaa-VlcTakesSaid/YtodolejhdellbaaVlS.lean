/- The reference of vlc that reads: Take, TakeSigned. -/
import Derived.Test.YtodolejhdellbaaVlR
import Derived.Test.YtodolejhdellbaaBitTw
namespace Go.Proofs.Ytodolejhdellbaa
open Go.RowKit

theorem Rr.drewN {w : World} {base g : Nat} {A : Option Addr} {c : Nat} {l : List Bool} {t : Nat} (h : Rr w base g A c l t) (n : Nat) : Rr (w.drewN n) base g A c l t := h.kept0 ((Touch.refl _ _).drewN _)
theorem BM.drop_get (l : List Bool) (t k : Nat) (h : t + k < l.length) : (l.drop t)[k]? = some (BM.at_ l (t + k)) := by
  rw [List.getElem?_drop]
  unfold BM.at_
  rw [List.getD, List.getElem?_eq_getElem h]; rfl

set_option maxHeartbeats 1000000 in
theorem rtakeu_c (w : World) (base g : Nat) (A : Option Addr) (c : Nat) (l : List Bool) (t : Nat) (h : Rr w base g A c l t) (hl : l.length < 1099511627776) :
    Calls Try.prog 30 #[.pointer (some ⟨g, 0, none⟩)] w fun e w' =>
      e = .returned (.tuple #[.int .i64 (BM.tku l t).1, .int .i64 (BM.tku l t).2]) ∧ Rr w' base g A c l (BM.mvu l t) ∧ Touch w w' (fun k => k = g) := by
  have ht := h.taken
  have H := Lib.hid h
  clear h
  go_enter Try.func30, Try.ntmps30
  go_wp2_with fail
  go_loopw [4] (fun i wr => ∃ k : Nat, k ≤ 15 ∧ t + k ≤ l.length ∧ i = .int .i64 (k : Int) ∧ (∀ i, i < k → (l.drop t)[i]? = some false) ∧ Touch w wr (fun _ => False)) (fun i _ => 16 - (intOf i).toNat)
  case atStart => exact ⟨0, by omega, by omega, rfl, fun i hi => by omega, Touch.refl _ _⟩
  case round =>
    obtain ⟨k, hk, hkl, rfl, hz, hT⟩ := hrel
    have Hz := Lib.hid hz
    have hR := H.out.kept0 hT
    have HT := Lib.hid hT
    have HR := Lib.hid hR
    obtain ⟨m, hm⟩ : ∃ m : Int, m = ((l.length - t : Nat) : Int) := ⟨_, rfl⟩
    have hm' : m = (l.length : Int) - (t : Int) := by omega
    have hleft := fun n => rleft_c (wr.drewN n) base g A c l t (hR.drewN n) hl
    rw [← hm] at hleft
    have Hm := Lib.hid hm'
    clear hm hm'
    have d1 := hR.cel.cell 1
    have d0 := hR.cel.cell 0
    simp at d0 d1
    clear hz hT
    by_cases hlt : t + k < l.length
    · have hg := BM.drop_get l t k hlt
      have hA : ∃ gr o, A = some ⟨gr, o, none⟩ := by
        rcases hR.sl with ⟨e, _⟩ | ⟨a, c, e, _⟩ | ⟨g, o, cap, e, _⟩
        · injection e with _ e; omega
        · injection e with _ e; omega
        · injection e with e; exact ⟨g, o, e⟩
      obtain ⟨gr, o, rfl⟩ := hA
      have d2 := Sl.at_ hR.sl (t + k) (by rw [BM.length_nat]; omega)
      rw [BM.nat_getD] at d2
      have hd : decide ((k : Int) < m) = true := by have := Hm.out; simp; omega
      generalize BM.at_ l (t + k) = b at *
      have Hg := Lib.hid hg
      clear hg hR
      have hw1 : IntKind.i64.wrap ((t : Int) + (k : Int)) = (t : Int) + (k : Int) := IntWalk.i64_in _ (by omega)
      cases b
      · have d2' : wr.cell? ⟨gr, o + (t + k), none⟩ = some (.int .u8 0) := d2
        have hz' : ∀ i, i < k + 1 → (l.drop t)[i]? = some false := by
          intro i hi
          rcases Nat.lt_or_ge i k with h | h
          · exact Hz.out i h
          · obtain rfl : i = k := by omega
            exact Hg.out
        have Hz' := Lib.hid hz'
        clear d2 hz'
        go_wp2_with fail
        go_quiet ((go_at_call 46; exact Calls.quiet_of (hleft _)))
        by_cases hk15 : k = 15
        · subst hk15
          have hzl : BM.zl (l.drop t) 16 = 16 := by
            have h1 := BM.zl_ge 16 16 (l.drop t) (by omega) Hz'.out
            have h2 := BM.zl_le 16 (l.drop t)
            omega
          have htk : BM.tku l t = (0, 3) := by unfold BM.tku; rw [if_pos hzl]
          have hmv : BM.mvu l t = t := by unfold BM.mvu; rw [if_pos hzl]
          have Htk := Lib.hid htk; have Hmv := Lib.hid hmv
          clear htk hmv hzl
          go_wp2
          go_ret2
          exact ⟨by rw [Htk.out]; rfl, by rw [Hmv.out]; exact (HR.out.drewN _), (HT.out.wide (fun _ e => e.elim)).drewN _⟩
        · have hd16 : (((k : Int) + 1) == 16) = false := beq_eq_false_iff_ne.2 (by omega)
          have hk14 : k ≤ 14 := by omega
          clear hk15
          go_wp2_with fail
          go_roundw
          case rel => exact ⟨k + 1, by omega, by omega, by go_num, Hz'.out, HT.out.drewN _⟩
          case measure => simp [intOf]; omega
      · have d2' : wr.cell? ⟨gr, o + (t + k), none⟩ = some (.int .u8 1) := d2
        clear d2
        have hzl := BM.zl_stop k 16 (l.drop t) Hz.out (by omega) (by rw [Hg.out]; simp)
        have htk : BM.tku l t = if l.length - t < 2 * k + 1 then (0, 4) else ((BM.num (BM.part l t (2 * k + 1)) : Int) - 1, 0) := by unfold BM.tku; rw [hzl, if_neg (by omega)]
        have hmv : BM.mvu l t = if l.length - t < 2 * k + 1 then t else t + (2 * k + 1) := by unfold BM.mvu; rw [hzl, if_neg (by omega)]
        have Htk := Lib.hid htk; have Hmv := Lib.hid hmv
        clear htk hmv hzl
        by_cases hs : l.length - t < 2 * k + 1
        · have hd2 : decide (m < 2 * (k : Int) + 1) = true := by have := Hm.out; simp; omega
          have htk := Htk.out; have hmv := Hmv.out
          rw [if_pos hs] at htk hmv
          have Htk := Lib.hid htk; have Hmv := Lib.hid hmv
          clear htk hmv hs
          go_wp2_with fail
          go_quiet ((go_at_call 46; exact Calls.quiet_of (hleft _)))
          go_wp2_with fail
          refine (hleft _).mono ?_
          rintro e w1 ⟨rfl, n1, rfl⟩
          go_wp2
          go_ret2
          exact ⟨by rw [Htk.out]; rfl, by rw [Hmv.out]; exact HR.out.drewN _, (HT.out.wide (fun _ e => e.elim)).drewN _⟩
        · have hd2 : decide (m < 2 * (k : Int) + 1) = false := by have := Hm.out; simp; omega
          have htk := Htk.out; have hmv := Hmv.out
          rw [if_neg hs] at htk hmv
          have Htk := Lib.hid htk; have Hmv := Lib.hid hmv
          have hlt2 := BM.num_lt (BM.part l t (2 * k + 1))
          have hpl := BM.length_part l t (2 * k + 1)
          have hpw : 2 ^ (BM.part l t (2 * k + 1)).length ≤ 2 ^ 31 := Nat.pow_le_pow_right (by decide) (by omega)
          have hxx : BM.num (BM.part l t (2 * k + 1)) < 2147483648 := by omega
          have htake := fun n => rtake_ok (wr.drewN n) base g (some ⟨gr, o, none⟩) c l t (2 * k + 1) (HR.out.drewN n) hl (by omega) (by omega)
          have Htake := Lib.hid htake
          clear htk hmv hs hlt2 hpl hpw htake
          go_wp2_with fail
          go_quiet ((go_at_call 46; exact Calls.quiet_of (hleft _)))
          go_wp2_with fail
          refine (hleft _).mono ?_
          rintro e w1 ⟨rfl, n1, rfl⟩
          go_wp2_with fail
          refine (Htake.out _).mono ?_
          rintro e w2 ⟨rfl, hR2, ht2⟩
          have HR2 := Lib.hid hR2
          have HT2 := Lib.hid (Touch.trans (S := fun k => k = g) (S' := fun k => k = g) (HT.out.wide (fun _ e => e.elim)) ht2.undrewN (fun _ e => .inl e))
          clear hR2 ht2
          generalize hx : BM.num (BM.part l t (2 * k + 1)) = x at *
          go_wp2
          go_ret2
          exact ⟨by rw [Htk.out]; rfl, by rw [Hmv.out]; exact HR2.out, HT2.out⟩
    · have hzl := BM.zl_stop k 16 (l.drop t) Hz.out (by omega) (by rw [List.getElem?_eq_none (by rw [List.length_drop]; omega)]; simp)
      have hd : decide ((k : Int) < m) = false := by have := Hm.out; simp; omega
      clear hR
      have htk : BM.tku l t = if l.length - t < 2 * k + 1 then (0, 4) else ((BM.num (BM.part l t (2 * k + 1)) : Int) - 1, 0) := by unfold BM.tku; rw [hzl, if_neg (by omega)]
      have hmv : BM.mvu l t = if l.length - t < 2 * k + 1 then t else t + (2 * k + 1) := by unfold BM.mvu; rw [hzl, if_neg (by omega)]
      have Htk := Lib.hid htk; have Hmv := Lib.hid hmv
      clear htk hmv hzl
      by_cases hs : l.length - t < 2 * k + 1
      · have hd2 : decide (m < 2 * (k : Int) + 1) = true := by have := Hm.out; simp; omega
        have htk := Htk.out; have hmv := Hmv.out
        rw [if_pos hs] at htk hmv
        have Htk := Lib.hid htk; have Hmv := Lib.hid hmv
        clear htk hmv hs
        go_wp2_with fail
        go_quiet ((go_at_call 46; exact Calls.quiet_of (hleft _)))
        go_wp2_with fail
        refine (hleft _).mono ?_
        rintro e w1 ⟨rfl, n1, rfl⟩
        go_wp2
        go_ret2
        exact ⟨by rw [Htk.out]; rfl, by rw [Hmv.out]; exact HR.out.drewN _, (HT.out.wide (fun _ e => e.elim)).drewN _⟩
      · have hd2 : decide (m < 2 * (k : Int) + 1) = false := by have := Hm.out; simp; omega
        have htk := Htk.out; have hmv := Hmv.out
        rw [if_neg hs] at htk hmv
        have Htk := Lib.hid htk; have Hmv := Lib.hid hmv
        have hlt2 := BM.num_lt (BM.part l t (2 * k + 1))
        have hpl := BM.length_part l t (2 * k + 1)
        have hpw : 2 ^ (BM.part l t (2 * k + 1)).length ≤ 2 ^ 31 := Nat.pow_le_pow_right (by decide) (by omega)
        have hxx : BM.num (BM.part l t (2 * k + 1)) < 2147483648 := by omega
        have htake := fun n => rtake_ok (wr.drewN n) base g A c l t (2 * k + 1) (HR.out.drewN n) hl (by omega) (by omega)
        have Htake := Lib.hid htake
        clear htk hmv hs hlt2 hpl hpw htake
        go_wp2_with fail
        go_quiet ((go_at_call 46; exact Calls.quiet_of (hleft _)))
        go_wp2_with fail
        refine (hleft _).mono ?_
        rintro e w1 ⟨rfl, n1, rfl⟩
        go_wp2_with fail
        refine (Htake.out _).mono ?_
        rintro e w2 ⟨rfl, hR2, ht2⟩
        have HR2 := Lib.hid hR2
        have HT2 := Lib.hid (Touch.trans (S := fun k => k = g) (S' := fun k => k = g) (HT.out.wide (fun _ e => e.elim)) ht2.undrewN (fun _ e => .inl e))
        clear hR2 ht2
        generalize hx : BM.num (BM.part l t (2 * k + 1)) = x at *
        go_wp2
        go_ret2
        exact ⟨by rw [Htk.out]; rfl, by rw [Hmv.out]; exact HR2.out, HT2.out⟩

set_option maxHeartbeats 400000 in
theorem rtakes_c (w : World) (base g : Nat) (A : Option Addr) (c : Nat) (l : List Bool) (t : Nat) (h : Rr w base g A c l t) (hl : l.length < 1099511627776) :
    Calls Try.prog 28 #[.pointer (some ⟨g, 0, none⟩)] w fun e w' =>
      e = .returned (.tuple #[.int .i64 (BM.tks l t).1, .int .i64 (BM.tks l t).2]) ∧ Rr w' base g A c l (BM.mvu l t) ∧ Touch w w' (fun k => k = g) := by
  have hb := BM.tku_bounds l t
  have hc := rtakeu_c w base g A c l t h hl
  have Hc := Lib.hid hc
  clear hc h
  unfold BM.tks BM.sgn
  generalize BM.mvu l t = m at *
  generalize BM.tku l t = q at *
  obtain ⟨v, x⟩ := q
  simp only at *
  obtain ⟨h1, h2, h3, h4⟩ := hb
  have e1 : v.tmod 2 = v % 2 := Int.tmod_eq_emod_of_nonneg h1
  have e2 : (v + 1).tdiv 2 = (v + 1) / 2 := Int.tdiv_eq_ediv_of_nonneg (by omega)
  have e3 : v.tdiv 2 = v / 2 := Int.tdiv_eq_ediv_of_nonneg h1
  by_cases hb : v % 2 = 1
  · rw [if_pos hb]
    have hd : (v.tmod 2 == 1) = true := by rw [e1, hb]; rfl
    go_enter Try.func28, Try.ntmps28
    go_wp2_with fail
    refine Hc.out.mono ?_
    rintro e w1 ⟨rfl, hR, hT⟩
    have HR := Lib.hid hR; have HT := Lib.hid hT
    clear hR hT
    go_wp2
    go_ret2
    exact ⟨by simp, HR.out, HT.out⟩
  · rw [if_neg hb]
    have hd : (v.tmod 2 == 1) = false := by rw [e1]; simpa using hb
    go_enter Try.func28, Try.ntmps28
    go_wp2_with fail
    refine Hc.out.mono ?_
    rintro e w1 ⟨rfl, hR, hT⟩
    have HR := Lib.hid hR; have HT := Lib.hid hT
    clear hR hT
    go_wp2
    go_ret2
    exact ⟨by simp, HR.out, HT.out⟩
end Go.Proofs.Ytodolejhdellbaa
