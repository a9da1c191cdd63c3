/- The law BitioApart as a contract. -/
import Derived.Test.YtmogpacbfgiccaaBitL1
namespace Go.Proofs.Ytmogpacbfgiccaa
open Go.RowKit

theorem Sl.kept0 {w w' : World} {v : Value} {bs : List Nat} (h : Sl w v bs) (k : Touch w w' (fun _ => False)) : Sl w' v bs := h.to k (fun _ _ e => e)
/-- Take, whatever is asked: it turns the reader alone -/
theorem take_any (w : World) (base g : Nat) (A : Option Addr) (c : Nat) (p : List Nat) (t : Nat) (n : Int) (h : Rd w base g A c p t) (hp : p.length < 1099511627776) :
    Calls Try.prog 21 #[.pointer (some ⟨g, 0, none⟩), .int .i64 n] w fun e w' => ∃ x f, e = .returned (.tuple #[.int .u32 x, .int .i64 f]) ∧ Touch w w' (fun k => k = g) := by
  by_cases h1 : n < 0 ∨ 32 < n
  · exact (take_arg w g n h1).mono fun _ _ ⟨a, b⟩ => ⟨_, _, a, by subst b; exact Touch.refl _ _⟩
  · obtain ⟨m, rfl⟩ : ∃ m : Nat, n = (m : Int) := ⟨n.toNat, by omega⟩
    by_cases h2 : m ≤ BM.cnt p - t
    · exact (take_ok w base g A c p t m h hp (by omega) h2).mono fun _ _ ⟨a, _, b⟩ => ⟨_, _, a, b⟩
    · refine (take_short w base g A c p t m h hp (by omega) (by omega)).mono fun _ _ ⟨a, k, b⟩ => ⟨_, _, a, ?_⟩
      subst b
      exact (Touch.refl _ _).drewN _

set_option linter.unusedSimpArgs false in
set_option maxHeartbeats 2000000 in
theorem lawApart_c (W : World) (va vb : Value) (n : Int) (xs : List (Nat × Int)) (hA : Ops W W.heap.size va xs) (ys : List (Nat × Int)) (hB : Ops W W.heap.size vb ys) (hn : -9223372036854775808 ≤ n ∧ n ≤ 9223372036854775807) :
    Calls Try.prog 7 #[va, vb, .int .i64 n] W fun e w' => e = .returned (.bool true) ∧ Touch W w' (fun _ => False) := by
  obtain ⟨A0, c0, rfl⟩ := hA.len
  obtain ⟨B0, d0, rfl⟩ := hB.len
  have HA := Lib.hid hA; have HB := Lib.hid hB
  clear hA hB
  by_cases hbig : 100 < xs.length ∨ 100 < ys.length
  · generalize xs.length = N at *
    generalize ys.length = M at *
    by_cases h1 : 100 < N
    · clear hbig
      go_enter Try.func7, Try.ntmps7
      go_wp2
      go_ret
      exact ⟨rfl, Touch.refl _ _⟩
    · have h2 : 100 < M := by omega
      clear hbig
      have hd1 : decide (100 < (N : Int)) = false := by simp; omega
      go_enter Try.func7, Try.ntmps7
      go_wp2
      go_ret
      exact ⟨rfl, Touch.refl _ _⟩
  · have ha : xs.length ≤ 100 := by omega
    have hb : ys.length ≤ 100 := by omega
    clear hbig
    have la := BM.length_bits xs
    have lb := BM.length_bits ys
    generalize hN : xs.length = N at *
    generalize hM : ys.length = M at *
    have HN := Lib.hid hN; have HM := Lib.hid hM
    clear hN hM
    go_enter Try.func7, Try.ntmps7
    go_wp2_with fail
    refine (new_c _).mono ?_
    rintro e w1 ⟨rfl, hW1, hT1⟩
    have HW1 := Lib.hid hW1; have HT1 := Lib.hid hT1
    have hs1 := hW1.cel.lt
    clear hW1 hT1
    go_wp2_with fail
    refine (new_c _).mono ?_
    rintro e w2 ⟨rfl, hW2, hT2⟩
    have hV2 : Wr w2 W.heap.size W.heap.size (.slice none 0 0) [] := HW1.out.kept0 hT2
    have hU2 : Wr w2 W.heap.size w1.heap.size (.slice none 0 0) [] := ⟨by omega, hW2.cel, World.ownsRow_nil _ _ _ _⟩
    have hs2 := hW2.cel.lt
    have hT2' : Touch W w2 (fun _ => False) := HT1.out.trans hT2 (fun _ e => e.elim)
    have HV2 := Lib.hid hV2; have HU2 := Lib.hid hU2; have HT2 := Lib.hid hT2'
    clear hV2 hU2 hT2' hW2 hT2 HW1 HT1
    generalize w1.heap.size = gu at *
    go_wp2_with fail
    refine (written_c _ W.heap.size W.heap.size _ xs HV2.out (HA.out.to HT2.out (Nat.le_refl _) (fun _ _ e => e)) (by rw [HN.out]; omega)).mono ?_
    rintro e w3 ⟨v3, A3, c3, rfl, hWn3⟩
    have hT3 : Touch W w3 (fun _ => False) := touch_new HT2.out hWn3.touch (fun i hi => by omega)
    have hU3 : Wr w3 W.heap.size gu (.slice none 0 0) [] := HU2.out.kept hWn3.touch (by
      intro i hi e
      rcases hi with hi | hi
      · omega
      · simp [Value.ownBlock] at hi)
    have hS3 := Sl.own hWn3.all
    have HV3 := Lib.hid hWn3.wr; have HU3 := Lib.hid hU3; have HT3 := Lib.hid hT3; have HS3 := Lib.hid hS3
    have hlt3 := hWn3.all.lt
    have Hlt3 := Lib.hid hlt3
    have hgu3 := hU3.cel.lt
    have Hn3 := Lib.hid hWn3.new
    clear hU3 hT3 hS3 hWn3 hlt3 HV2 HU2
    go_wp2_with fail
    refine (written_c _ W.heap.size gu _ ys HU3.out (HB.out.to HT3.out (Nat.le_refl _) (fun _ _ e => e)) (by rw [HM.out]; omega)).mono ?_
    rintro e w4 ⟨v4, A4, c4, rfl, hWn4⟩
    have hT4 : Touch W w4 (fun _ => False) := touch_new HT3.out hWn4.touch (fun i hi => by omega)
    have hV4 : Wr w4 W.heap.size W.heap.size v3 (BM.bits xs) := HV3.out.kept hWn4.touch (by
      intro i hi e
      rcases hi with hi | hi
      · omega
      · subst e; have := Hn3.out _ hi; omega)
    have hS4 := HS3.out.to hWn4.touch (by
      intro i hi e
      subst e
      have := (Hlt3.out _ hi).1; omega)
    have hS4b := Sl.own hWn4.all
    have HV4 := Lib.hid hV4; have HU4 := Lib.hid hWn4.wr; have HT4 := Lib.hid hT4; have HS4 := Lib.hid hS4; have HS4b := Lib.hid hS4b
    clear hT4 hV4 hS4 hS4b hWn4
    go_wp2_with fail
    refine (payload_c _ _ _ _ _ HV4.out (by omega)).mono ?_
    rintro e w5 ⟨A5, c5, rfl, ho5, ht5⟩
    have hS5 := Sl.own ho5
    have hT5 : Touch W w5 (fun _ => False) := HT4.out.trans ht5 (fun _ e => e.elim)
    have HS5 := Lib.hid hS5; have HT5 := Lib.hid hT5
    have HU5 := Lib.hid (HU4.out.kept0 ht5); have HX5 := Lib.hid (HS4.out.kept0 ht5); have HY5 := Lib.hid (HS4b.out.kept0 ht5)
    clear ho5 ht5 hS5 hT5 HV4 HU4 HS4 HS4b
    go_wp2_with fail
    refine (rpay_c _ _ _ HX5.out (by omega)).mono ?_
    rintro e w6 ⟨A6, c6, rfl, ho6, ht6⟩
    have hT6 : Touch W w6 (fun _ => False) := HT5.out.trans ht6 (fun _ e => e.elim)
    have HS6 := Lib.hid (Sl.own ho6); have HT6 := Lib.hid hT6
    have HU6 := Lib.hid (HU5.out.kept0 ht6); have HX6 := Lib.hid (HX5.out.kept0 ht6); have HY6 := Lib.hid (HY5.out.kept0 ht6); have HP6 := Lib.hid (HS5.out.kept0 ht6)
    clear ho6 ht6 hT6 HU5 HX5 HY5 HS5
    go_wp2_with fail
    refine (same_c _ _ _ _ HP6.out HS6.out).mono ?_
    rintro e w7 ⟨rfl, rfl⟩
    go_wp2_with fail
    refine (payload_c _ _ _ _ _ HU6.out (by omega)).mono ?_
    rintro e w7 ⟨A7, c7, rfl, ho7, ht7⟩
    have hT7 : Touch W w7 (fun _ => False) := HT6.out.trans ht7 (fun _ e => e.elim)
    have HS7 := Lib.hid (Sl.own ho7); have HT7 := Lib.hid hT7
    have HY7 := Lib.hid (HY6.out.kept0 ht7); have HP7 := Lib.hid (HP6.out.kept0 ht7)
    clear ho7 ht7 hT7 HU6 HX6 HY6 HP6 HS6
    go_wp2_with fail
    refine (rpay_c _ _ _ HY7.out (by omega)).mono ?_
    rintro e w8 ⟨A8, c8, rfl, ho8, ht8⟩
    have hT8 : Touch W w8 (fun _ => False) := HT7.out.trans ht8 (fun _ e => e.elim)
    have HS8 := Lib.hid (Sl.own ho8); have HT8 := Lib.hid hT8
    have HQ8 := Lib.hid (HS7.out.kept0 ht8); have HP8 := Lib.hid (HP7.out.kept0 ht8)
    clear ho8 ht8 hT8 HY7 HP7 HS7
    go_wp2_with fail
    refine (same_c _ _ _ _ HQ8.out HS8.out).mono ?_
    rintro e w9 ⟨rfl, rfl⟩
    go_wp2_with fail
    refine (newr_ok _ _ _ HP8.out (by rw [BM.length_pay]; omega) (BM.good_pay _)).mono ?_
    rintro e w9 ⟨gr, A9, c9, rfl, hR9, ht9⟩
    have hT9 : Touch W w9 (fun _ => False) := HT8.out.trans ht9 (fun _ e => e.elim)
    have HR9 := Lib.hid hR9; have HT9 := Lib.hid hT9; have HP9 := Lib.hid (HP8.out.kept0 ht9)
    have hsz8 := HT8.out.size
    have hgr := hR9.from_; have hgr2 := hR9.cel.lt
    clear hR9 hT9 ht9 HP8
    go_wp2_with fail
    refine (newr_ok _ _ _ HP9.out (by rw [BM.length_pay]; omega) (BM.good_pay _)).mono ?_
    rintro e w10 ⟨gs, A10, c10, rfl, hR10, ht10⟩
    have hT10 : Touch W w10 (fun _ => False) := HT9.out.trans ht10 (fun _ e => e.elim)
    have HRr := Lib.hid (HR9.out.kept0 ht10); have HT10 := Lib.hid hT10
    have hgs := hR10.from_
    have HR10 := Lib.hid hR10
    clear hR10 hT10 ht10 HR9
    go_wp2_with fail
    refine (take_any _ _ gr _ _ _ _ n HRr.out (by rw [BM.length_pay]; omega)).mono ?_
    rintro e w11 ⟨x, f, rfl, ht11⟩
    have hR11 := HR10.out.kept ht11 (fun i h1 h2 h3 => by omega)
    have hT11 : Touch W w11 (fun _ => False) := touch_new HT10.out ht11 (fun i hi => by omega)
    have HR11 := Lib.hid hR11; have HT11 := Lib.hid hT11
    clear hR11 hT11 ht11 HRr HR10
    go_wp2_with fail
    refine (awake_c _).mono ?_
    rintro e w12 ⟨rfl, ht12⟩
    have HR12 := Lib.hid (HR11.out.kept0 ht12)
    have hT12 : Touch W w12 (fun _ => False) := HT11.out.trans ht12 (fun _ e => e.elim)
    have HT12 := Lib.hid hT12
    clear ht12 hT12 HR11
    go_wp2_with fail
    refine (at_c _ _ gs _ _ _ _ HR12.out).mono ?_
    rintro e w13 ⟨rfl, rfl⟩
    go_wp2_with fail
    refine (left_c _ _ gs _ _ _ _ HR12.out (by rw [BM.length_pay]; omega)).mono ?_
    rintro e w13 ⟨rfl, n13, rfl⟩
    rw [BM.cnt_pay, Nat.sub_zero]
    go_wp2
    go_ret
    exact ⟨rfl, HT12.out.drewN _⟩
end Go.Proofs.Ytmogpacbfgiccaa
