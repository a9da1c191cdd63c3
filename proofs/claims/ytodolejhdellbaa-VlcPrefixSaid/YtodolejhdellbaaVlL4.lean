/- The law VlcPrefix as a contract. -/
import Derived.Test.YtodolejhdellbaaVlR
import Derived.Test.YtodolejhdellbaaVlB
import Derived.Test.YtodolejhdellbaaVlW
namespace Go.Proofs.Ytodolejhdellbaa
open Go.RowKit

set_option linter.unusedSimpArgs false in
set_option maxRecDepth 20000 in
set_option maxHeartbeats 2000000 in
theorem lawPrefix_c (W : World) (x : Int) (v : Value) (p : List Nat) (hx1 : -9223372036854775808 ≤ x) (hx2 : x ≤ 9223372036854775807) (hS : Sl W v p) (hby : ∀ y ∈ p, y < 256) :
    Calls Try.prog 7 #[.int .i64 x, v] W fun e w' => e = .returned (.bool true) ∧ Touch W w' (fun _ => False) := by
  obtain ⟨A0, c0, rfl⟩ := hS.len
  have hmay := fun w => rmay_c w x
  have HS := Lib.hid hS
  clear hS
  generalize hN : p.length = N at *
  have HN := Lib.hid hN
  clear hN
  by_cases hv : 0 ≤ x ∧ x ≤ 65534
  · rw [decide_eq_true hv] at hmay
    have Hmay := Lib.hid hmay
    clear hmay
    by_cases hbig : 100 < N
    · clear hv
      go_enter Try.func7, Try.ntmps7
      go_wp2_with fail
      refine (Hmay.out _).mono ?_
      rintro e w1 ⟨rfl, rfl⟩
      go_wp2_with fail
      refine (awake_c _).mono ?_
      rintro e w1 ⟨rfl, ht⟩
      have Ht := Lib.hid ht
      clear ht
      go_wp2
      go_ret
      exact ⟨rfl, Ht.out⟩
    · obtain ⟨n, rfl⟩ : ∃ n : Nat, x = (n : Int) := ⟨x.toNat, by omega⟩
      have hn : n ≤ 65534 := by omega
      have hN : N ≤ 100 := by omega
      have hcl := BM.length_code n
      have hhf := BM.hf_le n hn
      have hclen : (BM.code n).length ≤ 31 := by omega
      have Hby := Lib.hid hby
      have Hclen := Lib.hid hclen
      clear hv hbig hcl hhf hclen hby
      go_enter Try.func7, Try.ntmps7
      go_wp2_with fail
      refine (Hmay.out _).mono ?_
      rintro e w1 ⟨rfl, rfl⟩
      go_wp2_with fail
      refine (new_c _).mono ?_
      rintro e w2 ⟨rfl, hW2, hT2⟩
      have HW2 := Lib.hid hW2; have HT2 := Lib.hid hT2
      clear hW2 hT2
      go_wp2_with fail
      refine (putu_ok _ _ _ _ _ n HW2.out (by simp) hn).mono ?_
      rintro e w3 ⟨rfl, v3, hG⟩
      have hT3 := touch_new HT2.out hG.touch (foot_new HW2.out (Nat.le_refl _))
      have HW3 := Lib.hid hG.wr; have HT3 := Lib.hid hT3
      clear hG hT3
      go_wp2_with fail
      go_loopw [6] (fun i wr => ∃ k : Nat, k ≤ N ∧ i = .int .i64 (k : Int) ∧ ∃ v', Wr wr w1.heap.size w1.heap.size v' ([] ++ BM.code n ++ BM.allb p k) ∧ Touch w1 wr (fun _ => False)) (fun i _ => N - (intOf i).toNat)
      case atStart => exact ⟨0, by omega, rfl, v3, by simpa [BM.allb] using HW3.out, HT3.out⟩
      case round =>
        obtain ⟨k, hk, rfl, v', hW, hT⟩ := hrel
        have hszk := hT.size
        have HWk := Lib.hid hW; have HTk := Lib.hid hT
        have hla := BM.length_allb p k
        have hlen : ([] ++ BM.code n ++ BM.allb p k).length ≤ 1000 := by have := Hclen.out; simp only [List.length_append, List.length_nil]; omega
        have Hlen := Lib.hid hlen
        clear hW hT hla hlen
        by_cases hlt : k < N
        · have hs := HS.out.to HTk.out (fun _ _ e => e)
          have hA : ∃ g o, A0 = some ⟨g, o, none⟩ := by
            have hn0 := HN.out
            rcases hs with ⟨e, _⟩ | ⟨a, c, e, _⟩ | ⟨g, o, cap, e, _⟩
            · injection e with _ e; omega
            · injection e with _ e; omega
            · injection e with e; exact ⟨g, o, e⟩
          obtain ⟨g, o, rfl⟩ := hA
          have hc := Sl.at_ hs k (by rw [HN.out]; exact hlt)
          have hy := BM.getD_byte Hby.out k
          have hst := BM.allb_succ p k
          generalize p.getD k 0 = y at *
          have hu : ((y : Int) % 4294967296) = (y : Int) := by omega
          have Hst := Lib.hid hst
          clear hs hst
          go_wp2_with fail
          refine (put_ok _ _ _ _ _ y 8 HWk.out (by have := Hlen.out; omega) (by omega) (by omega) (Nat.div_eq_of_lt hy)).mono ?_
          rintro e w4 ⟨rfl, v4, hG⟩
          have hT4 := touch_new HTk.out hG.touch (foot_new HWk.out (Nat.le_refl _))
          have hwr := hG.wr
          rw [List.append_assoc, ← Hst.out] at hwr
          have HW4 := Lib.hid hwr; have HT4 := Lib.hid hT4
          clear hG hT4 hc hwr
          go_wp2_with fail
          go_roundw
          case rel => exact ⟨k + 1, by omega, by go_num, v4, HW4.out, HT4.out⟩
          case measure => simp [intOf]; omega
        · obtain rfl : k = N := by omega
          obtain ⟨h1, h2⟩ := BM.tku_code [] (BM.allb p k) n hn
          have hcnt : ([] ++ BM.code n ++ BM.allb p k).length - (0 + (BM.code n).length) = 8 * k := by have := BM.length_allb p k; simp only [List.length_append, List.length_nil]; omega
          have H1 := Lib.hid h1; have H2 := Lib.hid h2; have Hcnt := Lib.hid hcnt
          clear h1 h2 hcnt
          go_wp2_with fail
          refine (payload_c _ _ _ _ _ HWk.out (by have := Hlen.out; omega)).mono ?_
          rintro e w4 ⟨A4, c4, rfl, ho4, ht4⟩
          have HS4 := Lib.hid (Sl.own ho4); have HT4 := Lib.hid (HTk.out.trans ht4 (fun _ e => e.elim))
          clear ho4 ht4
          go_wp2_with fail
          refine (newr_ok _ _ _ HS4.out (by rw [BM.length_pay]; have := Hlen.out; omega) (BM.good_pay _)).mono ?_
          rintro e w5 ⟨gr, A5, c5, rfl, hR5, ht5⟩
          have hszw4 := HT4.out.size
          have hgr5 := hR5.from_
          have HR5 := Lib.hid hR5; have HT5 := Lib.hid (HT4.out.trans ht5 (fun _ e => e.elim))
          clear hR5 ht5 HS4
          go_wp2_with fail
          refine (takeu_c _ _ gr _ _ _ 0 HR5.out (by rw [BM.length_pay]; have := Hlen.out; omega)).mono ?_
          rintro e w6 ⟨rfl, hR6, ht6⟩
          have h1 := H1.out; have h2 := H2.out
          rw [List.length_nil] at h1 h2
          rw [BM.unpk_pay, h1]
          rw [BM.unpk_pay, h2] at hR6
          have HR6 := Lib.hid hR6; have HT6 := Lib.hid (touch_new HT5.out ht6 (fun i hi => by omega))
          clear hR6 ht6 h1 h2
          go_wp2_with fail
          refine (awake_c _).mono ?_
          rintro e w7 ⟨rfl, ht7⟩
          have HR7 := Lib.hid (HR6.out.kept0 ht7); have HT7 := Lib.hid (HT6.out.trans ht7 (fun _ e => e.elim))
          clear ht7
          go_wp2_with fail
          refine (left_c _ _ gr _ _ _ _ HR7.out (by rw [BM.length_pay]; have := Hlen.out; omega)).mono ?_
          rintro e w8 ⟨rfl, n8, rfl⟩
          rw [BM.cnt_pay, Hcnt.out]
          go_wp2
          go_ret
          exact ⟨rfl, HT7.out.drewN _⟩
  · rw [decide_eq_false hv] at hmay
    clear hv
    go_enter Try.func7, Try.ntmps7
    go_wp2_with fail
    refine (hmay _).mono ?_
    rintro e w1 ⟨rfl, rfl⟩
    go_wp2_with fail
    refine (awake_c _).mono ?_
    rintro e w1 ⟨rfl, ht⟩
    have Ht := Lib.hid ht
    clear ht
    go_wp2
    go_ret
    exact ⟨rfl, Ht.out⟩

theorem lawPrefix (W : World) (x : Int) (v : Value) (hx : -9223372036854775808 ≤ x ∧ x ≤ 9223372036854775807) (p : List Nat) (hS : Sl W v p) (hby : ∀ y ∈ p, y < 256) :
    Calls Try.prog 7 #[.int .i64 x, v] W fun e w' => e = .returned (.bool true) ∧ Touch W w' (fun _ => False) := lawPrefix_c W x v p hx.1 hx.2 hS hby
end Go.Proofs.Ytodolejhdellbaa
