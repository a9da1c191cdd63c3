/- The laws VlcShorter, VlcUnsigned, VlcSigned as contracts. -/
import Derived.Test.YtodolejhdellbaaVlW
import Derived.Test.YtodolejhdellbaaVlG
import Derived.Test.YtodolejhdellbaaBitK
namespace Go.Proofs.Ytodolejhdellbaa
open Go.RowKit

theorem BM.blen_pos {v : Int} (h : 0 ≤ v ∧ v ≤ 65534) : 1 ≤ BM.blen v := by
  unfold BM.blen; rw [if_pos h, BM.length_code]; omega
theorem BM.blen_mono {a b : Int} (hab : a ≤ b) (h : 0 ≤ a ∧ a ≤ 65534) (k : 0 ≤ b ∧ b ≤ 65534) : BM.blen a ≤ BM.blen b := by
  unfold BM.blen; rw [if_pos h, if_pos k, BM.length_code, BM.length_code]
  have := BM.hf_mono (a := a.toNat) (b := b.toNat) (by omega)
  omega

theorem lawShorter_c (W : World) (a b : Int) (ha1 : -9223372036854775808 ≤ a) (ha2 : a ≤ 9223372036854775807) (hb1 : -9223372036854775808 ≤ b) (hb2 : b ≤ 9223372036854775807) :
    Calls Try.prog 8 #[.int .i64 a, .int .i64 b] W fun e w' => e = .returned (.bool true) ∧ Touch W w' (fun _ => False) := by
  have hma := fun w => rmay_c w a
  have hmb := fun w => rmay_c w b
  have hba := fun w => vbits_len_c w a ha1 ha2
  have hbb := fun w => vbits_len_c w b hb1 hb2
  by_cases hab : b < a
  · have hd : decide (b < a) = true := by simpa using hab
    go_enter Try.func8, Try.ntmps8
    go_wp2_with fail
    refine (awake_c _).mono ?_
    rintro e w1 ⟨rfl, ht⟩
    have Ht := Lib.hid ht
    clear ht
    go_wp2
    go_ret
    exact ⟨rfl, Ht.out⟩
  · have hd : decide (b < a) = false := by simpa using hab
    by_cases hA : 0 ≤ a ∧ a ≤ 65534
    · by_cases hB : 0 ≤ b ∧ b ≤ 65534
      · have h1 := BM.blen_pos hA
        have h2 := BM.blen_mono (by omega) hA hB
        rw [decide_eq_true hA] at hma
        rw [decide_eq_true hB] at hmb
        generalize BM.blen a = p at *
        generalize BM.blen b = q at *
        have hd1 : decide (1 ≤ p) = true := by simpa using h1
        have hd2 : decide (p ≤ q) = true := by simpa using h2
        clear hA hB hab h1 h2
        go_enter Try.func8, Try.ntmps8
        go_wp2_with fail
        refine (hma _).mono ?_
        rintro e w1 ⟨rfl, rfl⟩
        go_wp2_with fail
        refine (hmb _).mono ?_
        rintro e w1 ⟨rfl, rfl⟩
        go_wp2_with fail
        refine (awake_c _).mono ?_
        rintro e w1 ⟨rfl, ht⟩
        have Ht := Lib.hid ht
        clear ht
        go_wp2_with fail
        refine (hba _).mono ?_
        rintro e w2 ⟨rfl, rfl⟩
        go_wp2_with fail
        refine (hba _).mono ?_
        rintro e w2 ⟨rfl, rfl⟩
        go_wp2_with fail
        refine (hbb _).mono ?_
        rintro e w2 ⟨rfl, rfl⟩
        go_wp2
        go_ret
        exact ⟨rfl, Ht.out⟩
      · rw [decide_eq_true hA] at hma
        rw [decide_eq_false hB] at hmb
        clear hA hB hab
        go_enter Try.func8, Try.ntmps8
        go_wp2_with fail
        refine (hma _).mono ?_
        rintro e w1 ⟨rfl, rfl⟩
        go_wp2_with fail
        refine (hmb _).mono ?_
        rintro e w1 ⟨rfl, rfl⟩
        go_wp2_with fail
        refine (awake_c _).mono ?_
        rintro e w1 ⟨rfl, ht⟩
        have Ht := Lib.hid ht
        clear ht
        go_wp2
        go_ret
        exact ⟨rfl, Ht.out⟩
    · rw [decide_eq_false hA] at hma
      clear hA hab
      go_enter Try.func8, Try.ntmps8
      go_wp2_with fail
      refine (hma _).mono ?_
      rintro e w1 ⟨rfl, rfl⟩
      go_wp2_with fail
      refine (awake_c _).mono ?_
      rintro e w1 ⟨rfl, ht⟩
      have Ht := Lib.hid ht
      clear ht
      go_wp2
      go_ret
      exact ⟨rfl, Ht.out⟩

set_option maxHeartbeats 1000000 in
theorem lawUnsigned_c (W : World) (x : Int) (h1 : -9223372036854775808 ≤ x) (h2 : x ≤ 9223372036854775807) :
    Calls Try.prog 3 #[.int .i64 x] W fun e w' => e = .returned (.bool true) ∧ Touch W w' (fun _ => False) := by
  have hm := fun w => rmay_c w x
  have hb := fun w => vbits_len_c w x h1 h2
  have hr := fun w => rbits_c w x
  have hc := fun n h w => rcode_c w n h
  have hcs := BM.cu_short x
  have Hcs := Lib.hid hcs
  have heu : BM.eu x = if 0 ≤ x ∧ x ≤ 65534 then 0 else 2 := rfl
  have hcu : BM.cu x = if 0 ≤ x ∧ x ≤ 65534 then BM.code x.toNat else [] := rfl
  have Heu0 := Lib.hid heu; have Hcu0 := Lib.hid hcu
  clear heu hcu
  go_enter Try.func3, Try.ntmps3
  go_wp2_with fail
  refine (new_c _).mono ?_
  rintro e w1 ⟨rfl, hW1, hT1⟩
  have HW1 := Lib.hid hW1; have HT1 := Lib.hid hT1
  clear hW1 hT1
  go_wp2_with fail
  refine (putu_c _ _ _ _ _ x HW1.out (by simp) h1 h2).mono ?_
  rintro e w2 ⟨rfl, v2, hG⟩
  have hT2 : Touch W w2 (fun _ => False) := touch_new HT1.out hG.touch (foot_new HW1.out (Nat.le_refl _))
  have HW2 := Lib.hid hG.wr; have HT2 := Lib.hid hT2
  clear hT2 hG
  go_wp2_with fail
  refine (hb _).mono ?_
  rintro e w3 ⟨rfl, rfl⟩
  go_wp2_with fail
  refine (hr _).mono ?_
  rintro e w3 ⟨rfl, rfl⟩
  generalize BM.blen x = q at *
  go_wp2_with fail
  refine (putu_nil _ x).mono ?_
  rintro e w3 ⟨rfl, rfl⟩
  go_wp2_with fail
  refine (hm _).mono ?_
  rintro e w3 ⟨rfl, rfl⟩
  by_cases hx : 0 ≤ x ∧ x ≤ 65534
  · have heu := Heu0.out; have hcu := Hcu0.out
    rw [if_pos hx] at heu hcu
    rw [heu, decide_eq_true hx]
    obtain ⟨n, rfl⟩ : ∃ n : Nat, x = (n : Int) := ⟨x.toNat, by omega⟩
    rw [Int.toNat_natCast] at hcu
    have hc' := hc n (by omega)
    have Hcu := Lib.hid hcu
    clear hx heu hcu hc Heu0 Hcu0
    go_wp2_with fail
    refine (awake_c _).mono ?_
    rintro e w4 ⟨rfl, ht⟩
    have HW4 := Lib.hid (HW2.out.kept0 ht); have HT4 := Lib.hid (HT2.out.trans ht (fun _ e => e.elim))
    clear ht
    go_wp2_with fail
    refine (payload_c _ _ _ _ _ HW4.out (by have := Hcs.out; simp; omega)).mono ?_
    rintro e w5 ⟨A5, c5, rfl, ho5, ht5⟩
    have HS5 := Lib.hid (Sl.own ho5); have HT5 := Lib.hid (HT4.out.trans ht5 (fun _ e => e.elim))
    clear ho5 ht5
    go_wp2_with fail
    refine (hc' _).mono ?_
    rintro e w6 ⟨A6, c6, rfl, ho6, ht6⟩
    have HS6 := Lib.hid (Sl.own ho6); have HT6 := Lib.hid (HT5.out.trans ht6 (fun _ e => e.elim)); have HP6 := Lib.hid (HS5.out.to ht6 (fun _ _ e => e))
    clear ho6 ht6
    go_wp2_with fail
    have hs6 := HS6.out
    have hcl := Hcu.out
    have hl6 := Hcs.out
    rw [← hcl] at hs6 ⊢
    refine (rpay_c _ _ _ hs6 (by omega)).mono ?_
    rintro e w7 ⟨A7, c7, rfl, ho7, ht7⟩
    have HS7 := Lib.hid (Sl.own ho7); have HT7 := Lib.hid (HT6.out.trans ht7 (fun _ e => e.elim)); have HP7 := Lib.hid (HP6.out.to ht7 (fun _ _ e => e))
    clear ho7 ht7 hs6 hcl hl6
    go_wp2_with fail
    refine (same_c _ _ _ _ HP7.out HS7.out).mono ?_
    rintro e w8 ⟨rfl, rfl⟩
    go_wp2
    go_ret
    exact ⟨rfl, HT7.out⟩
  · have heu := Heu0.out; have hcu := Hcu0.out
    rw [if_neg hx] at heu hcu
    rw [heu, decide_eq_false hx]
    have hlen : ([] ++ BM.cu x).length = 0 := by rw [hcu]; rfl
    have Hlen := Lib.hid hlen
    clear hx heu hcu hc hlen Heu0 Hcu0
    go_wp2_with fail
    refine (awake_c _).mono ?_
    rintro e w4 ⟨rfl, ht⟩
    have HW4 := Lib.hid (HW2.out.kept0 ht); have HT4 := Lib.hid (HT2.out.trans ht (fun _ e => e.elim))
    clear ht
    go_wp2_with fail
    refine (len_c _ _ _ _ _ HW4.out).mono ?_
    rintro e w5 ⟨rfl, rfl⟩
    rw [Hlen.out]
    go_wp2
    go_ret
    exact ⟨rfl, HT4.out⟩

set_option maxHeartbeats 1000000 in
theorem lawSigned_c (W : World) (x : Int) (h1 : -9223372036854775808 ≤ x) (h2 : x ≤ 9223372036854775807) :
    Calls Try.prog 4 #[.int .i64 x] W fun e w' => e = .returned (.bool true) ∧ Touch W w' (fun _ => False) := by
  have hm := fun w => rmays_c w x
  have hb := fun w => slen_c w x h1 h2
  have hr := fun w => rslen_c w x
  have hc := fun w => rscode_c w x
  have hcs := BM.cs_short x
  have Hcs := Lib.hid hcs
  have heu : BM.es x = if -32767 ≤ x ∧ x ≤ 32767 then 0 else 2 := rfl
  have hcu : BM.cs x = if -32767 ≤ x ∧ x ≤ 32767 then BM.code (BM.uns x).toNat else [] := rfl
  have Heu0 := Lib.hid heu; have Hcu0 := Lib.hid hcu
  clear heu hcu
  go_enter Try.func4, Try.ntmps4
  go_wp2_with fail
  refine (new_c _).mono ?_
  rintro e w1 ⟨rfl, hW1, hT1⟩
  have HW1 := Lib.hid hW1; have HT1 := Lib.hid hT1
  clear hW1 hT1
  go_wp2_with fail
  refine (puts_c _ _ _ _ _ x HW1.out (by simp) h1 h2).mono ?_
  rintro e w2 ⟨rfl, v2, hG⟩
  have hT2 : Touch W w2 (fun _ => False) := touch_new HT1.out hG.touch (foot_new HW1.out (Nat.le_refl _))
  have HW2 := Lib.hid hG.wr; have HT2 := Lib.hid hT2
  clear hT2 hG
  go_wp2_with fail
  refine (hb _).mono ?_
  rintro e w3 ⟨rfl, rfl⟩
  go_wp2_with fail
  refine (hr _).mono ?_
  rintro e w3 ⟨rfl, rfl⟩
  generalize BM.slen x = q at *
  go_wp2_with fail
  refine (puts_nil _ x h1 h2).mono ?_
  rintro e w3 ⟨rfl, rfl⟩
  go_wp2_with fail
  refine (hm _).mono ?_
  rintro e w3 ⟨rfl, rfl⟩
  by_cases hx : -32767 ≤ x ∧ x ≤ 32767
  · have heu := Heu0.out
    rw [if_pos hx] at heu
    rw [heu, decide_eq_true hx]
    have hc' := fun w => hc w hx.1 hx.2
    clear hx heu hc Heu0 Hcu0
    go_wp2_with fail
    refine (awake_c _).mono ?_
    rintro e w4 ⟨rfl, ht⟩
    have HW4 := Lib.hid (HW2.out.kept0 ht); have HT4 := Lib.hid (HT2.out.trans ht (fun _ e => e.elim))
    clear ht
    go_wp2_with fail
    refine (payload_c _ _ _ _ _ HW4.out (by have := Hcs.out; simp; omega)).mono ?_
    rintro e w5 ⟨A5, c5, rfl, ho5, ht5⟩
    have HS5 := Lib.hid (Sl.own ho5); have HT5 := Lib.hid (HT4.out.trans ht5 (fun _ e => e.elim))
    clear ho5 ht5
    go_wp2_with fail
    refine (hc' _).mono ?_
    rintro e w6 ⟨A6, c6, rfl, ho6, ht6⟩
    have HS6 := Lib.hid (Sl.own ho6); have HT6 := Lib.hid (HT5.out.trans ht6 (fun _ e => e.elim)); have HP6 := Lib.hid (HS5.out.to ht6 (fun _ _ e => e))
    clear ho6 ht6
    go_wp2_with fail
    have hl6 := Hcs.out
    refine (rpay_c _ _ _ HS6.out (by omega)).mono ?_
    rintro e w7 ⟨A7, c7, rfl, ho7, ht7⟩
    have HS7 := Lib.hid (Sl.own ho7); have HT7 := Lib.hid (HT6.out.trans ht7 (fun _ e => e.elim)); have HP7 := Lib.hid (HP6.out.to ht7 (fun _ _ e => e))
    clear ho7 ht7 hl6
    go_wp2_with fail
    refine (same_c _ _ _ _ HP7.out HS7.out).mono ?_
    rintro e w8 ⟨rfl, rfl⟩
    go_wp2
    go_ret
    exact ⟨rfl, HT7.out⟩
  · have heu := Heu0.out; have hcu := Hcu0.out
    rw [if_neg hx] at heu hcu
    rw [heu, decide_eq_false hx]
    have hlen : ([] ++ BM.cs x).length = 0 := by rw [hcu]; rfl
    have Hlen := Lib.hid hlen
    clear hx heu hcu hc hlen Heu0 Hcu0
    go_wp2_with fail
    refine (awake_c _).mono ?_
    rintro e w4 ⟨rfl, ht⟩
    have HW4 := Lib.hid (HW2.out.kept0 ht); have HT4 := Lib.hid (HT2.out.trans ht (fun _ e => e.elim))
    clear ht
    go_wp2_with fail
    refine (len_c _ _ _ _ _ HW4.out).mono ?_
    rintro e w5 ⟨rfl, rfl⟩
    rw [Hlen.out]
    go_wp2
    go_ret
    exact ⟨rfl, HT4.out⟩

theorem lawShorter (W : World) (a b : Int) (ha : -9223372036854775808 ≤ a ∧ a ≤ 9223372036854775807) (hb : -9223372036854775808 ≤ b ∧ b ≤ 9223372036854775807) :
    Calls Try.prog 8 #[.int .i64 a, .int .i64 b] W fun e w' => e = .returned (.bool true) ∧ Touch W w' (fun _ => False) := lawShorter_c W a b ha.1 ha.2 hb.1 hb.2
theorem lawUnsigned (W : World) (x : Int) (h : -9223372036854775808 ≤ x ∧ x ≤ 9223372036854775807) :
    Calls Try.prog 3 #[.int .i64 x] W fun e w' => e = .returned (.bool true) ∧ Touch W w' (fun _ => False) := lawUnsigned_c W x h.1 h.2
theorem lawSigned (W : World) (x : Int) (h : -9223372036854775808 ≤ x ∧ x ≤ 9223372036854775807) :
    Calls Try.prog 4 #[.int .i64 x] W fun e w' => e = .returned (.bool true) ∧ Touch W w' (fun _ => False) := lawSigned_c W x h.1 h.2
end Go.Proofs.Ytodolejhdellbaa
