/- The law BitioBack as a contract. -/
import Derived.Test.YtmogpacbfgiccaaBitN
import Derived.Test.YtmogpacbfgiccaaBitL0
import Derived.Test.YtmogpacbfgiccaaBitM3
namespace Go.Proofs.Ytmogpacbfgiccaa
open Go.RowKit

theorem touch_new {W w w' : World} {S : Nat → Prop} (h : Touch W w (fun _ => False)) (k : Touch w w' S) (hs : ∀ i, S i → W.heap.size ≤ i) : Touch W w' (fun _ => False) := h.trans k (fun i hi => .inr (hs i hi))
theorem foot_new {w : World} {base g : Nat} {v : Value} {l : List Bool} {B : Nat} (h : Wr w base g v l) (hB : B ≤ base) : ∀ i, foot g v i → B ≤ i := by
  intro i hi
  have := h.from_
  rcases hi with rfl | hi
  · omega
  · have := (h.own.lt i hi).1; omega
theorem Wr.kept {w w' : World} {base g : Nat} {v : Value} {l : List Bool} {S : Nat → Prop} (h : Wr w base g v l) (k : Touch w w' S) (hs : ∀ i, foot g v i → ¬ S i) : Wr w' base g v l :=
  ⟨h.from_, h.cel.kept k (hs g (.inl rfl)), own_kept h.own k (fun i hi => hs i (.inr hi))⟩
theorem Rd.kept {w w' : World} {base g : Nat} {A : Option Addr} {c : Nat} {p : List Nat} {t : Nat} {S : Nat → Prop} (h : Rd w base g A c p t) (k : Touch w w' S) (hs : ∀ i, base ≤ i → i < w.heap.size → ¬ S i) : Rd w' base g A c p t :=
  ⟨h.from_, h.cel.kept k (hs g h.from_ h.cel.lt), own_kept h.own k (fun i hi => hs i (h.own.lt i hi).1 (h.own.lt i hi).2), h.good, h.taken⟩
theorem Rd.kept0 {w w' : World} {base g : Nat} {A : Option Addr} {c : Nat} {p : List Nat} {t : Nat} (h : Rd w base g A c p t) (k : Touch w w' (fun _ => False)) : Rd w' base g A c p t := h.kept k (fun _ _ _ e => e)
theorem Wr.kept0 {w w' : World} {base g : Nat} {v : Value} {l : List Bool} (h : Wr w base g v l) (k : Touch w w' (fun _ => False)) : Wr w' base g v l := h.kept k (fun _ _ e => e)

set_option linter.unusedSimpArgs false in
set_option maxHeartbeats 1000000 in
theorem lawBack_c (W : World) (v : Value) (ops : List (Nat × Int)) (hO : Ops W W.heap.size v ops) :
    Calls Try.prog 5 #[v] W fun e w' => e = .returned (.bool true) ∧ Touch W w' (fun _ => False) := by
  obtain ⟨A0, c0, rfl⟩ := hO.len
  have HO := Lib.hid hO
  clear hO
  generalize hN : ops.length = N at *
  have HN := Lib.hid hN
  clear hN
  by_cases hbig : 200 < N
  · go_enter Try.func5, Try.ntmps5
    go_wp2
    go_ret
    exact ⟨rfl, Touch.refl _ _⟩
  · have hN2 : N ≤ 200 := by omega
    have hlb := BM.length_bits ops
    rw [HN.out] at hlb
    go_enter Try.func5, Try.ntmps5
    go_wp2_with fail
    refine (new_c _).mono ?_
    rintro e w1 ⟨rfl, hW1, hT1⟩
    have HW1 := Lib.hid hW1; have HT1 := Lib.hid hT1
    clear hW1 hT1
    go_wp2_with fail
    refine (written_c _ W.heap.size W.heap.size _ ops HW1.out (HO.out.to HT1.out (Nat.le_refl _) (fun _ _ e => e)) (by rw [HN.out]; omega)).mono ?_
    rintro e w2 ⟨v2, A2, c2, rfl, hWn⟩
    have hT2 : Touch W w2 (fun _ => False) := touch_new HT1.out hWn.touch (fun i hi => by omega)
    have HW2 := Lib.hid hWn.wr; have HT2 := Lib.hid hT2
    clear hT2 hWn
    go_wp2_with fail
    refine (payload_c _ _ _ _ _ HW2.out (by omega)).mono ?_
    rintro e w3 ⟨A3, c3, rfl, ho3, ht3⟩
    have HS3 := Lib.hid (Sl.own ho3); have Ht3 := Lib.hid ht3
    clear ho3 ht3
    go_wp2_with fail
    refine (newr_ok _ _ _ HS3.out (by rw [BM.length_pay]; omega) (BM.good_pay _)).mono ?_
    rintro e w4 ⟨gr, A4, c4, rfl, hR4, ht4⟩
    have hT4 : Touch W w4 (fun _ => False) := (HT2.out.trans Ht3.out (fun _ e => e.elim)).trans ht4 (fun _ e => e.elim)
    have hW4 := (HW2.out.kept0 Ht3.out).kept0 ht4
    have hb4 : W.heap.size ≤ w3.heap.size := (HT2.out.trans Ht3.out (fun _ e => e.elim)).size
    have HT4 := Lib.hid hT4; have HW4 := Lib.hid hW4; have HR4 := Lib.hid hR4
    clear hT4 hW4 hR4 ht4 HS3
    go_wp2_with fail
    refine (left_c _ _ gr _ _ _ _ HR4.out (by rw [BM.length_pay]; omega)).mono ?_
    rintro e w5 ⟨rfl, n5, rfl⟩
    rw [BM.cnt_pay]
    go_wp2_with fail
    refine (len_c _ _ _ _ _ (HW4.out.drewN _)).mono ?_
    rintro e w6 ⟨rfl, rfl⟩
    go_wp2_with fail
    have hT5 : Touch W (w4.drewN n5) (fun _ => False) := HT4.out.drewN _
    have hR5 := HR4.out.drewN n5
    have HT5 := Lib.hid hT5; have HR5 := Lib.hid hR5
    clear hT5 hR5
    generalize hW5 : w4.drewN n5 = w5 at *
    clear hW5
    go_loopw [8] (fun i wr => ∃ k : Nat, k ≤ N ∧ i = .int .i64 (k : Int) ∧ Rd wr w3.heap.size gr A4 c4 (BM.pay (BM.bits ops)) (BM.bits (ops.take k)).length ∧ Touch W wr (fun _ => False)) (fun i _ => N - (intOf i).toNat)
    case atStart =>
      refine ⟨0, by omega, rfl, ?_, HT5.out⟩
      rw [List.take_zero]
      exact HR5.out
    case round =>
      obtain ⟨k, hk, rfl, hR, hT⟩ := hrel
      have HR := Lib.hid hR; have HT := Lib.hid hT
      have hszr := hT.size
      clear hR hT
      by_cases hlt : k < N
      · have hO1 := HO.out.to HT.out (Nat.le_refl _) (fun _ _ e => e)
        obtain ⟨go, o, x, m, rfl, hgo, hq, hx, hm1, hm2, hc0, hc1⟩ := hO1.at_ k (by rw [HN.out]; exact hlt)
        have hstep := BM.bits_take ops k (x, m) hq
        have hsplit := BM.bits_split ops k (x, m) hq
        have Hst := Lib.hid hstep; have Hsp := Lib.hid hsplit
        clear hO1 hq hstep hsplit
        by_cases hok : BM.may x m = 0
        · obtain ⟨mm, rfl, hmm, hdiv⟩ := may_ok' hok
          have hone : BM.one (x, (mm : Int)) = BM.vbits x mm := by unfold BM.one; rw [if_pos hok, Int.toNat_natCast]
          have hxlt : x < 2 ^ mm := by
            rcases Nat.lt_or_ge x (2 ^ mm) with h | h
            · exact h
            · have := Nat.div_pos h (Nat.two_pow_pos mm); omega
          have hval : BM.num (BM.part (BM.unpk (BM.pay (BM.bits ops))) (BM.bits (ops.take k)).length mm) = x := by
            obtain ⟨r, hr⟩ := Hsp.out
            rw [BM.unpk_pay, hr, hone]
            have e1 := BM.part_mid (BM.bits (ops.take k)) (BM.vbits x mm) r
            rw [BM.length_vbits] at e1
            rw [e1, BM.num_vbits _ _ hxlt]
          have hleft : mm ≤ BM.cnt (BM.pay (BM.bits ops)) - (BM.bits (ops.take k)).length := by
            obtain ⟨r, hr⟩ := Hsp.out
            rw [BM.cnt_pay, hr, hone, List.length_append, List.length_append, BM.length_vbits]; omega
          have hnext : (BM.bits (ops.take (k + 1))).length = (BM.bits (ops.take k)).length + mm := by rw [Hst.out, List.length_append, hone, BM.length_vbits]
          have hokb : (BM.may x (mm : Int) != 0) = false := by rw [hok]; rfl
          have Hval := Lib.hid hval; have Hleft := Lib.hid hleft; have Hnext := Lib.hid hnext
          have d0 : ∀ n, (wr.drewN n).cell? ⟨go, o + k * 2, none⟩ = some (.int .u32 (x : Int)) := fun _ => hc0
          clear hval hleft hnext hone hok hdiv d0
          go_wp2_with fail
          go_quiet ((go_at_call 24; exact Calls.quiet_of_same ((may_c _ x _ hx).mono fun _ _ ⟨a, b⟩ => ⟨a, b.symm⟩)))
          go_wp2_with fail
          refine (take_ok _ _ gr _ _ _ _ mm (HR.out.drewN _) (by rw [BM.length_pay]; omega) hmm Hleft.out).mono ?_
          rintro e w6 ⟨rfl, hR6, ht6⟩
          rw [Hval.out]
          have hgr := HR.out.from_
          have k0 : w6.cell? ⟨go, o + k * 2, none⟩ = some (.int .u32 (x : Int)) := (ht6.cell (p := ⟨go, o + k * 2, none⟩) (by show go < wr.heap.size; omega) (by show ¬ go = gr; omega)).trans hc0
          have HR6 := Lib.hid hR6; have Ht6 := Lib.hid ht6.undrewN
          clear hR6 ht6
          go_wp2_with fail
          go_roundw
          case rel =>
            refine ⟨k + 1, by omega, by go_num, ?_, HT.out.trans Ht6.out (fun i hi => .inr (by omega))⟩
            rw [Hnext.out]
            exact HR6.out
          case measure => simp [intOf]; omega
        · have hone : BM.one (x, m) = [] := by unfold BM.one; rw [if_neg hok]
          have hnext : (BM.bits (ops.take (k + 1))).length = (BM.bits (ops.take k)).length := by rw [Hst.out, hone, List.append_nil]
          have hokb : (BM.may x m != 0) = true := by rw [bne_iff_ne]; exact hok
          have Hnext := Lib.hid hnext
          clear hnext hone hok
          go_wp2_with fail
          go_quiet ((go_at_call 24; exact Calls.quiet_of_same ((may_c _ x _ hx).mono fun _ _ ⟨a, b⟩ => ⟨a, b.symm⟩)))
          go_wp2_with fail
          go_roundw
          case rel =>
            refine ⟨k + 1, by omega, by go_num, ?_, HT.out.drewN _⟩
            rw [Hnext.out]
            exact HR.out.drewN _
          case measure => simp [intOf]; omega
      · obtain rfl : k = N := by omega
        have hfull : ops.take k = ops := List.take_of_length_le (by rw [HN.out]; omega)
        have hR := HR.out
        rw [hfull] at hR
        have HR := Lib.hid hR
        clear hfull hR
        go_wp2_with fail
        refine (take_short _ _ gr _ _ _ _ 1 HR.out (by rw [BM.length_pay]; omega) (by decide) (by rw [BM.cnt_pay]; omega)).mono ?_
        rintro e w6 ⟨rfl, n6, rfl⟩
        go_wp2_with fail
        refine (awake_c _).mono ?_
        rintro e w7 ⟨rfl, ht7⟩
        have Ht7 := Lib.hid ht7
        clear ht7
        go_wp2_with fail
        refine (left_c _ _ gr _ _ _ _ ((HR.out.drewN _).kept0 Ht7.out) (by rw [BM.length_pay]; omega)).mono ?_
        rintro e w8 ⟨rfl, n8, rfl⟩
        rw [BM.cnt_pay, Nat.sub_self]
        go_wp2
        go_ret
        exact ⟨rfl, ((HT.out.drewN _).trans Ht7.out (fun _ e => e.elim)).drewN _⟩
end Go.Proofs.Ytmogpacbfgiccaa
