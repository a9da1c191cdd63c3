/- The laws VlcPrefix and VlcBack as contracts. -/
import Derived.Test.YtodolejhdellbaaVlR
import Derived.Test.YtodolejhdellbaaVlB
import Derived.Test.YtodolejhdellbaaVlW
import Derived.Test.YtodolejhdellbaaBitTw
namespace Go.Proofs.Ytodolejhdellbaa
open Go.RowKit

namespace BM
/-- the codes of the first k numbers, unsigned and signed ones by turns -/
def bb (zs : List Int) : Nat → List Bool
  | 0 => []
  | k + 1 => bb zs k ++ (if k % 2 = 0 then cu (zs.getD k 0) else cs (zs.getD k 0))
theorem bb_e (zs : List Int) (k : Nat) (x : Int) (hx : zs[k]? = some x) (h : k % 2 = 0) : bb zs (k + 1) = bb zs k ++ cu x := by
  rw [bb, if_pos h, List.getD, hx]; rfl
theorem bb_o (zs : List Int) (k : Nat) (x : Int) (hx : zs[k]? = some x) (h : k % 2 = 1) : bb zs (k + 1) = bb zs k ++ cs x := by
  rw [bb, if_neg (by omega), List.getD, hx]; rfl
theorem length_bb (zs : List Int) (k : Nat) : (bb zs k).length ≤ 31 * k := by
  induction k with
  | zero => simp [bb]
  | succ k ih =>
    rw [bb, List.length_append]
    have h1 := cu_short (zs.getD k 0)
    have h2 := cs_short (zs.getD k 0)
    split <;> omega
theorem bb_split (zs : List Int) (k m : Nat) (h : k ≤ m) : ∃ r, bb zs m = bb zs k ++ r := by
  induction m with
  | zero => obtain rfl : k = 0 := by omega
            exact ⟨[], by simp⟩
  | succ m ih =>
    by_cases h2 : k = m + 1
    · exact ⟨[], by subst h2; simp⟩
    · obtain ⟨r, hr⟩ := ih (by omega)
      exact ⟨r ++ (if m % 2 = 0 then cu (zs.getD m 0) else cs (zs.getD m 0)), by rw [bb, hr, List.append_assoc]⟩
theorem bb_even (zs : List Int) (k : Nat) (x : Int) {m : Nat} (hst : bb zs (k + 1) = bb zs k ++ cu x) (hsp : ∃ r, bb zs m = bb zs (k + 1) ++ r) (hv : 0 ≤ x ∧ x ≤ 65534) :
    tku (bb zs m) (bb zs k).length = (x, 0) ∧ mvu (bb zs m) (bb zs k).length = (bb zs (k + 1)).length := by
  obtain ⟨r, hr⟩ := hsp
  have hc : cu x = code x.toNat := by unfold cu; rw [if_pos hv]
  have h := tku_code (bb zs k) r x.toNat (by omega)
  rw [← hc, ← hst, ← hr] at h
  refine ⟨by rw [h.1, Int.toNat_of_nonneg hv.1], by rw [h.2, hst, List.length_append]⟩
theorem bb_odd (zs : List Int) (k : Nat) (x : Int) {m : Nat} (hst : bb zs (k + 1) = bb zs k ++ cs x) (hsp : ∃ r, bb zs m = bb zs (k + 1) ++ r) (hv : -32767 ≤ x ∧ x ≤ 32767) :
    tks (bb zs m) (bb zs k).length = (x, 0) ∧ mvu (bb zs m) (bb zs k).length = (bb zs (k + 1)).length := by
  obtain ⟨r, hr⟩ := hsp
  have hc : cs x = code (uns x).toNat := by unfold cs; rw [if_pos hv]
  have hle := uns_le x hv.1 hv.2
  have hge := uns_ge x
  have h := tku_code (bb zs k) r (uns x).toNat (by omega)
  rw [← hc, ← hst, ← hr] at h
  refine ⟨by unfold tks; rw [h.1, Int.toNat_of_nonneg hge, sgn_uns], by rw [h.2, hst, List.length_append]⟩
end BM

theorem Il.get {w : World} {B n c : Nat} {A : Option Addr} {zs : List Int} (h : Il w B (.slice A n c) zs) (k : Nat) (hk : k < zs.length) :
    ∃ g o x, A = some ⟨g, o, none⟩ ∧ g < B ∧ zs[k]? = some x ∧ -9223372036854775808 ≤ x ∧ x ≤ 9223372036854775807 ∧ w.cell? ⟨g, o + k, none⟩ = some (.int .i64 x) := by
  have hq : zs[k]? = some zs[k] := List.getElem?_eq_getElem hk
  have hm := h.1 _ (List.getElem_mem hk)
  rcases h.2 with ⟨_, _, _, rfl⟩ | ⟨g, o, cap, hv, _, h3, h4⟩
  · simp at hk
  · injection hv with hv
    subst hv
    exact ⟨g, o, zs[k], rfl, h3, hq, hm.1, hm.2, h4 k _ hq⟩

set_option linter.unusedSimpArgs false in
set_option maxRecDepth 20000 in
set_option maxHeartbeats 2000000 in
theorem lawBack_c (W : World) (v : Value) (zs : List Int) (hZ : Il W W.heap.size v zs) :
    Calls Try.prog 6 #[v] W fun e w' => e = .returned (.bool true) ∧ Touch W w' (fun _ => False) := by
  obtain ⟨B0, d0, rfl⟩ := hZ.len
  have HZ := Lib.hid hZ
  clear hZ
  generalize hM : zs.length = M at *
  have HM := Lib.hid hM
  clear hM
  by_cases hbig : 200 < M
  · go_enter Try.func6, Try.ntmps6
    go_wp2
    go_ret
    exact ⟨rfl, Touch.refl _ _⟩
  · have hb : M ≤ 200 := by omega
    clear hbig
    have hlen := BM.length_bb zs M
    go_enter Try.func6, Try.ntmps6
    go_wp2_with fail
    refine (new_c _).mono ?_
    rintro e w1 ⟨rfl, hW1, hT1⟩
    have HW1 := Lib.hid hW1; have HT1 := Lib.hid hT1
    clear hW1 hT1
    go_wp2_with fail
    go_loopw [4, 5] (fun nn i wr => ∃ k : Nat, k ≤ M ∧ i = .int .i64 (k : Int) ∧ nn = .int .i64 ((BM.bb zs k).length : Int) ∧ ∃ v', Wr wr W.heap.size W.heap.size v' (BM.bb zs k) ∧ Touch W wr (fun _ => False)) (fun _ i _ => M - (intOf i).toNat)
    case atStart => exact ⟨0, by omega, rfl, rfl, _, HW1.out, HT1.out⟩
    case round =>
      obtain ⟨k, hk, rfl, rfl, v', hW, hT⟩ := hrel
      have hszk := hT.size
      have hlk := BM.length_bb zs k
      have HWk := Lib.hid hW; have HTk := Lib.hid hT
      clear hW hT
      by_cases hlt : k < M
      · obtain ⟨go, o, x, rfl, hgo, hx, hx1, hx2, hc⟩ := (HZ.out.to HTk.out (Nat.le_refl _) (fun _ _ e => e)).get k (by rw [HM.out]; exact hlt)
        generalize hLk : (BM.bb zs k).length = L at *
        have HLk := Lib.hid hLk
        clear hLk
        by_cases hpar : k % 2 = 0
        · have hd0 : (((k : Int) % 2 == 0) = true) := by simp; omega
          have hd1 : (((k : Int) % 2 == 1) = false) := by simp; omega
          have hst := BM.bb_e zs k x hx (by omega)
          have Hst := Lib.hid hst
          clear hst
          clear hpar hx
          by_cases hv : 0 ≤ x ∧ x ≤ 65534
          · have heu : BM.eu x = 0 := by unfold BM.eu; rw [if_pos hv]
            have hmay := fun w => rmay_c w x
            rw [decide_eq_true hv] at hmay
            have Heu := Lib.hid heu; have Hmay := Lib.hid hmay
            clear heu hmay hv
            go_wp2_with fail
            refine (putu_c _ _ _ _ _ x HWk.out (by have := HLk.out; omega) hx1 hx2).mono ?_
            rintro e w3 ⟨rfl, v3, hG⟩
            rw [Heu.out]
            have hc3 : w3.cell? ⟨go, o + k, none⟩ = some (.int .i64 x) := (hG.touch.cell (p := ⟨go, o + k, none⟩) (by show go < _; omega) (fun hf => by have := foot_new HWk.out (Nat.le_refl _) _ hf; simp at this; omega)).trans hc
            have hT3 : Touch W w3 (fun _ => False) := touch_new HTk.out hG.touch (foot_new HWk.out (Nat.le_refl _))
            rw [← Hst.out] at hG
            have HW3 := Lib.hid hG.wr; have HT3 := Lib.hid hT3
            clear hG hT3 hc
            go_wp2_with fail
            refine (vbits_len_c _ x hx1 hx2).mono ?_
            rintro e w4 ⟨rfl, rfl⟩
            have hnl : (L : Int) + BM.blen x = ((BM.bb zs (k + 1)).length : Int) := by have h1 := BM.length_cu x; have h2 := HLk.out; rw [Hst.out, List.length_append]; omega
            have hbl : (BM.bb zs (k + 1)).length ≤ 31 * (k + 1) := BM.length_bb zs (k + 1)
            generalize BM.blen x = q at *
            obtain ⟨q', hq'⟩ : ∃ q' : Int, q' = (L : Int) + q := ⟨_, rfl⟩
            rw [hnl] at hq'
            have Hnl := Lib.hid hnl; have Hbl := Lib.hid hbl
            have hsum : (-9223372036854775808 : Int) ≤ (L : Int) + q ∧ (L : Int) + q ≤ 9223372036854775807 := by omega
            have Hq := Lib.hid hq'
            clear hnl hq' hbl
            go_wp2_with fail
            refine (Hmay.out _).mono ?_
            rintro e w4 ⟨rfl, rfl⟩
            go_wp2_with fail
            refine (len_c _ _ _ _ _ HW3.out).mono ?_
            rintro e w4 ⟨rfl, rfl⟩
            rw [← Hnl.out]
            go_wp2_with fail
            go_roundw
            case rel => exact ⟨k + 1, by omega, by go_num, by rw [Hnl.out], v3, HW3.out, HT3.out⟩
            case measure => simp [intOf]; omega
          · have heu : BM.eu x = 2 := by unfold BM.eu; rw [if_neg hv]
            have hmay := fun w => rmay_c w x
            rw [decide_eq_false hv] at hmay
            have Heu := Lib.hid heu; have Hmay := Lib.hid hmay
            clear heu hmay hv
            go_wp2_with fail
            refine (putu_c _ _ _ _ _ x HWk.out (by have := HLk.out; omega) hx1 hx2).mono ?_
            rintro e w3 ⟨rfl, v3, hG⟩
            rw [Heu.out]
            have hc3 : w3.cell? ⟨go, o + k, none⟩ = some (.int .i64 x) := (hG.touch.cell (p := ⟨go, o + k, none⟩) (by show go < _; omega) (fun hf => by have := foot_new HWk.out (Nat.le_refl _) _ hf; simp at this; omega)).trans hc
            have hT3 : Touch W w3 (fun _ => False) := touch_new HTk.out hG.touch (foot_new HWk.out (Nat.le_refl _))
            rw [← Hst.out] at hG
            have HW3 := Lib.hid hG.wr; have HT3 := Lib.hid hT3
            clear hG hT3 hc
            go_wp2_with fail
            refine (vbits_len_c _ x hx1 hx2).mono ?_
            rintro e w4 ⟨rfl, rfl⟩
            have hnl : (L : Int) + BM.blen x = ((BM.bb zs (k + 1)).length : Int) := by have h1 := BM.length_cu x; have h2 := HLk.out; rw [Hst.out, List.length_append]; omega
            have hbl : (BM.bb zs (k + 1)).length ≤ 31 * (k + 1) := BM.length_bb zs (k + 1)
            generalize BM.blen x = q at *
            obtain ⟨q', hq'⟩ : ∃ q' : Int, q' = (L : Int) + q := ⟨_, rfl⟩
            rw [hnl] at hq'
            have Hnl := Lib.hid hnl; have Hbl := Lib.hid hbl
            have hsum : (-9223372036854775808 : Int) ≤ (L : Int) + q ∧ (L : Int) + q ≤ 9223372036854775807 := by omega
            have Hq := Lib.hid hq'
            clear hnl hq' hbl
            go_wp2_with fail
            refine (Hmay.out _).mono ?_
            rintro e w4 ⟨rfl, rfl⟩
            go_wp2_with fail
            refine (len_c _ _ _ _ _ HW3.out).mono ?_
            rintro e w4 ⟨rfl, rfl⟩
            rw [← Hnl.out]
            go_wp2_with fail
            go_roundw
            case rel => exact ⟨k + 1, by omega, by go_num, by rw [Hnl.out], v3, HW3.out, HT3.out⟩
            case measure => simp [intOf]; omega
        · have hd0 : (((k : Int) % 2 == 0) = false) := by simp; omega
          have hd1 : (((k : Int) % 2 == 1) = true) := by simp; omega
          have hst := BM.bb_o zs k x hx (by omega)
          have Hst := Lib.hid hst
          clear hst
          clear hpar hx
          by_cases hv : -32767 ≤ x ∧ x ≤ 32767
          · have heu : BM.es x = 0 := by unfold BM.es; rw [if_pos hv]
            have hmay := fun w => rmays_c w x
            rw [decide_eq_true hv] at hmay
            have Heu := Lib.hid heu; have Hmay := Lib.hid hmay
            clear heu hmay hv
            go_wp2_with fail
            refine (puts_c _ _ _ _ _ x HWk.out (by have := HLk.out; omega) hx1 hx2).mono ?_
            rintro e w3 ⟨rfl, v3, hG⟩
            rw [Heu.out]
            have hc3 : w3.cell? ⟨go, o + k, none⟩ = some (.int .i64 x) := (hG.touch.cell (p := ⟨go, o + k, none⟩) (by show go < _; omega) (fun hf => by have := foot_new HWk.out (Nat.le_refl _) _ hf; simp at this; omega)).trans hc
            have hT3 : Touch W w3 (fun _ => False) := touch_new HTk.out hG.touch (foot_new HWk.out (Nat.le_refl _))
            rw [← Hst.out] at hG
            have HW3 := Lib.hid hG.wr; have HT3 := Lib.hid hT3
            clear hG hT3 hc
            go_wp2_with fail
            refine (slen_c _ x hx1 hx2).mono ?_
            rintro e w4 ⟨rfl, rfl⟩
            have hnl : (L : Int) + BM.slen x = ((BM.bb zs (k + 1)).length : Int) := by have h1 := BM.length_cs x; have h2 := HLk.out; rw [Hst.out, List.length_append]; omega
            have hbl : (BM.bb zs (k + 1)).length ≤ 31 * (k + 1) := BM.length_bb zs (k + 1)
            generalize BM.slen x = q at *
            obtain ⟨q', hq'⟩ : ∃ q' : Int, q' = (L : Int) + q := ⟨_, rfl⟩
            rw [hnl] at hq'
            have Hnl := Lib.hid hnl; have Hbl := Lib.hid hbl
            have hsum : (-9223372036854775808 : Int) ≤ (L : Int) + q ∧ (L : Int) + q ≤ 9223372036854775807 := by omega
            have Hq := Lib.hid hq'
            clear hnl hq' hbl
            go_wp2_with fail
            refine (Hmay.out _).mono ?_
            rintro e w4 ⟨rfl, rfl⟩
            go_wp2_with fail
            refine (len_c _ _ _ _ _ HW3.out).mono ?_
            rintro e w4 ⟨rfl, rfl⟩
            rw [← Hnl.out]
            go_wp2_with fail
            go_roundw
            case rel => exact ⟨k + 1, by omega, by go_num, by rw [Hnl.out], v3, HW3.out, HT3.out⟩
            case measure => simp [intOf]; omega
          · have heu : BM.es x = 2 := by unfold BM.es; rw [if_neg hv]
            have hmay := fun w => rmays_c w x
            rw [decide_eq_false hv] at hmay
            have Heu := Lib.hid heu; have Hmay := Lib.hid hmay
            clear heu hmay hv
            go_wp2_with fail
            refine (puts_c _ _ _ _ _ x HWk.out (by have := HLk.out; omega) hx1 hx2).mono ?_
            rintro e w3 ⟨rfl, v3, hG⟩
            rw [Heu.out]
            have hc3 : w3.cell? ⟨go, o + k, none⟩ = some (.int .i64 x) := (hG.touch.cell (p := ⟨go, o + k, none⟩) (by show go < _; omega) (fun hf => by have := foot_new HWk.out (Nat.le_refl _) _ hf; simp at this; omega)).trans hc
            have hT3 : Touch W w3 (fun _ => False) := touch_new HTk.out hG.touch (foot_new HWk.out (Nat.le_refl _))
            rw [← Hst.out] at hG
            have HW3 := Lib.hid hG.wr; have HT3 := Lib.hid hT3
            clear hG hT3 hc
            go_wp2_with fail
            refine (slen_c _ x hx1 hx2).mono ?_
            rintro e w4 ⟨rfl, rfl⟩
            have hnl : (L : Int) + BM.slen x = ((BM.bb zs (k + 1)).length : Int) := by have h1 := BM.length_cs x; have h2 := HLk.out; rw [Hst.out, List.length_append]; omega
            have hbl : (BM.bb zs (k + 1)).length ≤ 31 * (k + 1) := BM.length_bb zs (k + 1)
            generalize BM.slen x = q at *
            obtain ⟨q', hq'⟩ : ∃ q' : Int, q' = (L : Int) + q := ⟨_, rfl⟩
            rw [hnl] at hq'
            have Hnl := Lib.hid hnl; have Hbl := Lib.hid hbl
            have hsum : (-9223372036854775808 : Int) ≤ (L : Int) + q ∧ (L : Int) + q ≤ 9223372036854775807 := by omega
            have Hq := Lib.hid hq'
            clear hnl hq' hbl
            go_wp2_with fail
            refine (Hmay.out _).mono ?_
            rintro e w4 ⟨rfl, rfl⟩
            go_wp2_with fail
            refine (len_c _ _ _ _ _ HW3.out).mono ?_
            rintro e w4 ⟨rfl, rfl⟩
            rw [← Hnl.out]
            go_wp2_with fail
            go_roundw
            case rel => exact ⟨k + 1, by omega, by go_num, by rw [Hnl.out], v3, HW3.out, HT3.out⟩
            case measure => simp [intOf]; omega
      · obtain rfl : k = M := by omega
        go_wp2_with fail
        refine (payload_c _ _ _ _ _ HWk.out (by omega)).mono ?_
        rintro e w3 ⟨A3, c3, rfl, ho3, ht3⟩
        have HS3 := Lib.hid (Sl.own ho3); have HT3 := Lib.hid (HTk.out.trans ht3 (fun _ e => e.elim))
        clear ho3 ht3
        go_wp2_with fail
        refine (newr_ok _ _ _ HS3.out (by rw [BM.length_pay]; omega) (BM.good_pay _)).mono ?_
        rintro e w4 ⟨gr, A4, c4, rfl, hR4, ht4⟩
        have hszw3 := HT3.out.size
        have hgr4 := hR4.from_
        have HR4 := Lib.hid hR4; have HT4 := Lib.hid (HT3.out.trans ht4 (fun _ e => e.elim))
        clear hR4 ht4 HS3
        go_wp2_with fail
        go_loopw [9] (fun i wr => ∃ j : Nat, j ≤ k ∧ i = .int .i64 (j : Int) ∧ Rd wr w3.heap.size gr A4 c4 (BM.pay (BM.bb zs k)) (BM.bb zs j).length ∧ Touch W wr (fun _ => False)) (fun i _ => k - (intOf i).toNat)
        case atStart => exact ⟨0, by omega, rfl, HR4.out, HT4.out⟩
        case round =>
          obtain ⟨j, hj, rfl, hR, hT⟩ := hrel
          obtain ⟨M, rfl⟩ : ∃ M, M = k := ⟨k, rfl⟩
          obtain ⟨k, rfl⟩ : ∃ k, k = j := ⟨j, rfl⟩
          have hszk2 := hT.size
          have HRk := Lib.hid hR; have HTk := Lib.hid hT
          clear hR hT
          by_cases hlt2 : k < M
          · obtain ⟨go, o, x, rfl, hgo, hx, hx1, hx2, hc⟩ := (HZ.out.to HTk.out (Nat.le_refl _) (fun _ _ e => e)).get k (by rw [HM.out]; exact hlt2)
            have hsplit := BM.bb_split zs (k + 1) M (by omega)
            by_cases hpar : k % 2 = 0
            · have hd0 : (((k : Int) % 2 == 0) = true) := by simp; omega
              have hd1 : (((k : Int) % 2 == 1) = false) := by simp; omega
              have hst := BM.bb_e zs k x hx (by omega)
              clear hpar hx
              by_cases hv : 0 ≤ x ∧ x ≤ 65534
              · have hmay := fun w => rmay_c w x
                rw [decide_eq_true hv] at hmay
                have Hmay := Lib.hid hmay
                obtain ⟨h1, h2⟩ := BM.bb_even zs k x hst hsplit hv
                have H1 := Lib.hid h1; have H2 := Lib.hid h2
                clear h1 h2 hmay hv hst hsplit
                go_wp2_with fail
                refine (Hmay.out _).mono ?_
                rintro e w4 ⟨rfl, rfl⟩
                go_wp2_with fail
                refine (takeu_c _ _ gr _ _ _ _ HRk.out (by rw [BM.length_pay]; omega)).mono ?_
                rintro e w5 ⟨rfl, hR5, ht5⟩
                rw [BM.unpk_pay] at hR5 ⊢
                rw [H1.out]
                rw [H2.out] at hR5
                have hc5 : w5.cell? ⟨go, o + k, none⟩ = some (.int .i64 x) := (ht5.cell (p := ⟨go, o + k, none⟩) (by show go < _; omega) (by show ¬ go = gr; omega)).trans hc
                have hT5 : Touch W w5 (fun _ => False) := touch_new HTk.out ht5 (fun i hi => by omega)
                have HR5 := Lib.hid hR5; have HT5 := Lib.hid hT5
                clear hR5 ht5 hT5 hc
                go_wp2_with fail
                go_roundw
                case rel => exact ⟨k + 1, by omega, by go_num, HR5.out, HT5.out⟩
                case measure => simp [intOf]; omega
              · have hmay := fun w => rmay_c w x
                rw [decide_eq_false hv] at hmay
                have Hmay := Lib.hid hmay
                have hnext : (BM.bb zs (k + 1)).length = (BM.bb zs k).length := by rw [hst, List.length_append]; unfold BM.cu; rw [if_neg hv]; rfl
                have Hn := Lib.hid hnext
                clear hnext hmay hv hst hsplit
                go_wp2_with fail
                refine (Hmay.out _).mono ?_
                rintro e w4 ⟨rfl, rfl⟩
                go_wp2_with fail
                go_roundw
                case rel => exact ⟨k + 1, by omega, by go_num, by rw [Hn.out]; exact HRk.out, HTk.out⟩
                case measure => simp [intOf]; omega
            · have hd0 : (((k : Int) % 2 == 0) = false) := by simp; omega
              have hd1 : (((k : Int) % 2 == 1) = true) := by simp; omega
              have hst := BM.bb_o zs k x hx (by omega)
              clear hpar hx
              by_cases hv : -32767 ≤ x ∧ x ≤ 32767
              · have hmay := fun w => rmays_c w x
                rw [decide_eq_true hv] at hmay
                have Hmay := Lib.hid hmay
                obtain ⟨h1, h2⟩ := BM.bb_odd zs k x hst hsplit hv
                have H1 := Lib.hid h1; have H2 := Lib.hid h2
                clear h1 h2 hmay hv hst hsplit
                go_wp2_with fail
                refine (Hmay.out _).mono ?_
                rintro e w4 ⟨rfl, rfl⟩
                go_wp2_with fail
                refine (takes_c _ _ gr _ _ _ _ HRk.out (by rw [BM.length_pay]; omega)).mono ?_
                rintro e w5 ⟨rfl, hR5, ht5⟩
                rw [BM.unpk_pay] at hR5 ⊢
                rw [H1.out]
                rw [H2.out] at hR5
                have hc5 : w5.cell? ⟨go, o + k, none⟩ = some (.int .i64 x) := (ht5.cell (p := ⟨go, o + k, none⟩) (by show go < _; omega) (by show ¬ go = gr; omega)).trans hc
                have hT5 : Touch W w5 (fun _ => False) := touch_new HTk.out ht5 (fun i hi => by omega)
                have HR5 := Lib.hid hR5; have HT5 := Lib.hid hT5
                clear hR5 ht5 hT5 hc
                go_wp2_with fail
                go_roundw
                case rel => exact ⟨k + 1, by omega, by go_num, HR5.out, HT5.out⟩
                case measure => simp [intOf]; omega
              · have hmay := fun w => rmays_c w x
                rw [decide_eq_false hv] at hmay
                have Hmay := Lib.hid hmay
                have hnext : (BM.bb zs (k + 1)).length = (BM.bb zs k).length := by rw [hst, List.length_append]; unfold BM.cs; rw [if_neg hv]; rfl
                have Hn := Lib.hid hnext
                clear hnext hmay hv hst hsplit
                go_wp2_with fail
                refine (Hmay.out _).mono ?_
                rintro e w4 ⟨rfl, rfl⟩
                go_wp2_with fail
                go_roundw
                case rel => exact ⟨k + 1, by omega, by go_num, by rw [Hn.out]; exact HRk.out, HTk.out⟩
                case measure => simp [intOf]; omega
          · obtain rfl : k = M := by omega
            go_wp2_with fail
            refine (awake_c _).mono ?_
            rintro e w7 ⟨rfl, ht7⟩
            have HR7 := Lib.hid (HRk.out.kept0 ht7); have HT7 := Lib.hid (HTk.out.trans ht7 (fun _ e => e.elim))
            clear ht7
            go_wp2_with fail
            refine (left_c _ _ gr _ _ _ _ HR7.out (by rw [BM.length_pay]; omega)).mono ?_
            rintro e w8 ⟨rfl, n8, rfl⟩
            rw [BM.cnt_pay, Nat.sub_self]
            go_wp2
            go_ret
            exact ⟨rfl, HT7.out.drewN _⟩
end Go.Proofs.Ytodolejhdellbaa
