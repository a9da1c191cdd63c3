/- The law VlcTakes as a contract. -/
import Derived.Test.YtodolejhdellbaaVlS
import Derived.Test.YtodolejhdellbaaVlW
import Derived.Test.YtodolejhdellbaaVlBl
namespace Go.Proofs.Ytodolejhdellbaa
open Go.RowKit

set_option linter.unusedSimpArgs false in
set_option maxHeartbeats 2000000 in
theorem lawTakes_c (W : World) (v vt : Value) (p : List Nat) (hS : Sl W v p) (hby : ∀ x ∈ p, x < 256) (zs : List Bool) (hZ : Bl W W.heap.size vt zs) :
    Calls Try.prog 5 #[v, vt] W fun e w' => e = .returned (.bool true) ∧ Touch W w' (fun _ => False) := by
  obtain ⟨A0, c0, rfl⟩ := hS.len
  obtain ⟨B0, d0, rfl⟩ := hZ.len
  have HS := Lib.hid hS; have HZ := Lib.hid hZ
  clear hS hZ
  generalize hN : p.length = N at *
  generalize hM : zs.length = M at *
  have HN := Lib.hid hN; have HM := Lib.hid hM
  clear hN hM
  by_cases hbig : 300 < N ∨ 300 < M
  · by_cases h1 : 300 < N
    · clear hbig
      go_enter Try.func5, Try.ntmps5
      go_wp2
      go_ret
      exact ⟨rfl, Touch.refl _ _⟩
    · have h2 : 300 < M := by omega
      clear hbig
      have hd1 : decide (300 < (N : Int)) = false := by simp; omega
      go_enter Try.func5, Try.ntmps5
      go_wp2
      go_ret
      exact ⟨rfl, Touch.refl _ _⟩
  · have ha : N ≤ 300 := by omega
    have hb : M ≤ 300 := by omega
    clear hbig
    by_cases hbad : p.length = 0 ∨ p.getD (p.length - 1) 0 = 0
    · have HB := Lib.hid hbad
      clear hbad
      go_enter Try.func5, Try.ntmps5
      go_wp2_with fail
      refine (newr_form _ _ p HS.out (by rw [HN.out]; omega) HB.out).mono ?_
      rintro e w1 ⟨rfl, rfl⟩
      go_wp2_with fail
      refine (ropen_form _ _ p HS.out (by rw [HN.out]; omega) HB.out).mono ?_
      rintro e w1 ⟨rfl, rfl⟩
      go_wp2_with fail
      refine (awake_c _).mono ?_
      rintro e w7 ⟨rfl, ht7⟩
      have Ht7 := Lib.hid ht7
      clear ht7
      go_wp2
      go_ret
      exact ⟨rfl, Ht7.out⟩
    · have hgood : BM.Good p := ⟨hby, by omega, by omega⟩
      have hcl := hgood.cnt_lt
      rw [HN.out] at hcl
      have hlu := BM.length_unpk p
      have HG := Lib.hid hgood; have HLu := Lib.hid hlu
      clear hbad hgood hlu
      go_enter Try.func5, Try.ntmps5
      go_wp2_with fail
      refine (newr_ok _ _ p HS.out (by rw [HN.out]; omega) HG.out).mono ?_
      rintro e w1 ⟨gr, A1, c1, rfl, hR1, hT1⟩
      have HR1 := Lib.hid hR1; have HT1 := Lib.hid hT1
      have hgr1 := hR1.cel.lt
      have hgr0 := hR1.from_
      clear hR1 hT1
      go_wp2_with fail
      refine (ropen_ok _ _ p (HS.out.to HT1.out (fun _ _ e => e)) (by rw [HN.out]; omega) HG.out).mono ?_
      rintro e w2 ⟨gs, A2, c2, rfl, hR2, hT2⟩
      have hsz1 := HT1.out.size
      have hTwo : Two w2 W.heap.size gr A1 c1 gs A2 c2 p 0 := by
        have hf := hR2.from_
        refine ⟨HR1.out.kept0 hT2, ⟨by omega, hR2.cel, hR2.sl, fun i hi => ⟨by have := (hR2.new i hi).1; omega, (hR2.new i hi).2⟩, hR2.taken⟩, fun i hi => by have := (hR2.new i hi).1; omega, fun i hi => by have := (HR1.out.own.lt i hi).2; omega⟩
      have HTw := Lib.hid hTwo; have HT2 := Lib.hid (HT1.out.trans hT2 (fun _ e => e.elim))
      clear hTwo hR2 hT2
      go_wp2_with fail
      go_loopw [9] (fun i wr => ∃ k t, k ≤ M ∧ i = .int .i64 (k : Int) ∧ Two wr W.heap.size gr A1 c1 gs A2 c2 p t ∧ Touch W wr (fun _ => False)) (fun i _ => M - (intOf i).toNat)
      case atStart => exact ⟨0, 0, by omega, rfl, HTw.out, HT2.out⟩
      case round =>
        obtain ⟨k, t, hk, rfl, hTw, hT⟩ := hrel
        have HTk := Lib.hid hTw; have HT := Lib.hid hT
        have hszk := hT.size
        clear hTw hT
        by_cases hlt : k < M
        · have hZ1 := HZ.out.to HT.out (Nat.le_refl _) (fun _ _ e => e)
          obtain ⟨go, o, m, rfl, hgo, hc⟩ := hZ1.at_ k (by rw [HM.out]; exact hlt)
          have hgr2 := HTk.out.rd.from_
          have hf2 := HTk.out.rr.from_
          have hne := HTk.out.ne
          clear hZ1
          have key : ∀ w3 : World, Rd w3 W.heap.size gr A1 c1 p (BM.mvu (BM.unpk p) t) → Touch wr w3 (fun k => k = gr) → Rr w3 W.heap.size gs A2 c2 (BM.unpk p) t ∧ ∀ w4, Rr w4 W.heap.size gs A2 c2 (BM.unpk p) (BM.mvu (BM.unpk p) t) → Touch w3 w4 (fun k => k = gs) → Two w4 W.heap.size gr A1 c1 gs A2 c2 p (BM.mvu (BM.unpk p) t) ∧ Touch W w4 (fun _ => False) := by
            intro w3 h3 ht3
            refine ⟨HTk.out.rr.kept ht3 (fun e => hne e.symm) (fun i hi e => HTk.out.far i hi e), fun w4 h4 ht4 => ?_⟩
            have hT3 : Touch W w3 (fun _ => False) := touch_new HT.out ht3 (fun i hi => by omega)
            have hrd4 : Rd w4 W.heap.size gr A1 c1 p (BM.mvu (BM.unpk p) t) := ⟨h3.from_, h3.cel.kept ht4 hne, own_kept h3.own ht4 (fun i hi e => HTk.out.low i hi e), h3.good, h3.taken⟩
            exact ⟨⟨hrd4, h4, HTk.out.far, HTk.out.low⟩, touch_new hT3 ht4 (fun i hi => by omega)⟩
          have Key := Lib.hid key
          clear key
          cases m
          · go_wp2_with fail
            refine (takeu_c _ _ gr _ _ _ t HTk.out.rd (by rw [HN.out]; omega)).mono ?_
            rintro e w3 ⟨rfl, hR3, ht3⟩
            obtain ⟨hrr3, hnext⟩ := Key.out w3 hR3 ht3
            have HQ3 := Lib.hid hrr3; have HN3 := Lib.hid hnext
            clear hR3 ht3 hrr3 hnext
            go_wp2_with fail
            refine (rtakeu_c _ _ gs _ _ _ t HQ3.out (by rw [HLu.out]; omega)).mono ?_
            rintro e w4 ⟨rfl, hR4, ht4⟩
            obtain ⟨hTw4, hT4⟩ := HN3.out w4 hR4 ht4
            have HTw4 := Lib.hid hTw4; have HT4 := Lib.hid hT4
            have e0 := hTw4.rr.cel.cell 1
            simp at e0
            clear hR4 ht4 hTw4 hT4 HN3 HQ3 hc
            generalize BM.tku (BM.unpk p) t = q at *
            generalize BM.mvu (BM.unpk p) t = t' at *
            go_wp2_with fail
            go_quiet ((go_at_call 31; first | exact Calls.quiet_of_same ((at_c _ _ gr _ _ _ _ (HTw4.out.drewN _).rd).mono fun _ _ ⟨a, b⟩ => ⟨a, b.symm⟩) | exact Calls.quiet_of_same ((at_c _ _ gr _ _ _ _ HTw4.out.rd).mono fun _ _ ⟨a, b⟩ => ⟨a, b.symm⟩)))
            go_wp2_with fail
            go_roundw
            case rel => exact ⟨k + 1, _, by omega, by go_num, HTw4.out.drewN _, HT4.out.drewN _⟩
            case measure => simp [intOf]; omega
          · go_wp2_with fail
            refine (takes_c _ _ gr _ _ _ t HTk.out.rd (by rw [HN.out]; omega)).mono ?_
            rintro e w3 ⟨rfl, hR3, ht3⟩
            obtain ⟨hrr3, hnext⟩ := Key.out w3 hR3 ht3
            have HQ3 := Lib.hid hrr3; have HN3 := Lib.hid hnext
            clear hR3 ht3 hrr3 hnext
            go_wp2_with fail
            refine (rtakes_c _ _ gs _ _ _ t HQ3.out (by rw [HLu.out]; omega)).mono ?_
            rintro e w4 ⟨rfl, hR4, ht4⟩
            obtain ⟨hTw4, hT4⟩ := HN3.out w4 hR4 ht4
            have HTw4 := Lib.hid hTw4; have HT4 := Lib.hid hT4
            have e0 := hTw4.rr.cel.cell 1
            simp at e0
            clear hR4 ht4 hTw4 hT4 HN3 HQ3 hc
            generalize BM.tks (BM.unpk p) t = q at *
            generalize BM.mvu (BM.unpk p) t = t' at *
            go_wp2_with fail
            go_quiet ((go_at_call 31; first | exact Calls.quiet_of_same ((at_c _ _ gr _ _ _ _ (HTw4.out.drewN _).rd).mono fun _ _ ⟨a, b⟩ => ⟨a, b.symm⟩) | exact Calls.quiet_of_same ((at_c _ _ gr _ _ _ _ HTw4.out.rd).mono fun _ _ ⟨a, b⟩ => ⟨a, b.symm⟩)))
            go_wp2_with fail
            go_roundw
            case rel => exact ⟨k + 1, _, by omega, by go_num, HTw4.out.drewN _, HT4.out.drewN _⟩
            case measure => simp [intOf]; omega
        · obtain rfl : k = M := by omega
          go_wp2_with fail
          refine (takeu_nil _).mono ?_
          rintro e w3 ⟨rfl, rfl⟩
          go_wp2_with fail
          refine (takes_nil _).mono ?_
          rintro e w3 ⟨rfl, rfl⟩
          go_wp2_with fail
          refine (awake_c _).mono ?_
          rintro e w7 ⟨rfl, ht7⟩
          have Ht7 := Lib.hid ht7
          clear ht7
          go_wp2
          go_ret
          exact ⟨rfl, HT.out.trans Ht7.out (fun _ e => e.elim)⟩
end Go.Proofs.Ytodolejhdellbaa
