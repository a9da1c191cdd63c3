/- The law BitioWrites as a contract. -/
import Derived.Test.YtmogpacbfgiccaaBitH
namespace Go.Proofs.Ytmogpacbfgiccaa
open Go.RowKit

/-- a writer and all its bits -/
structure Ww (w : World) (B g : Nat) (v va : Value) (l : List Bool) : Prop where
  wr : Wr w B g v l
  all : w.ownsRow B 5 1 va l.length (by8 (BM.nat l))
  far : ∀ i, va.ownBlock = some i → v.ownBlock ≠ some i
theorem Ww.kept0 {w w' : World} {B g : Nat} {v va : Value} {l : List Bool} (h : Ww w B g v va l) (k : Touch w w' (fun _ => False)) : Ww w' B g v va l :=
  ⟨h.wr.kept0 k, own_kept h.all k (fun _ _ e => e), h.far⟩

set_option linter.unusedSimpArgs false in
set_option maxHeartbeats 2000000 in
theorem lawWrites_c (W : World) (va vb : Value) (xs : List (Nat × Int)) (hA : Ops W W.heap.size va xs) (ys : List (Nat × Int)) (hB : Ops W W.heap.size vb ys) :
    Calls Try.prog 3 #[va, vb] W fun e w' => e = .returned (.bool true) ∧ Touch W w' (fun _ => False) := by
  obtain ⟨A0, c0, rfl⟩ := hA.len
  obtain ⟨B0, d0, rfl⟩ := hB.len
  have HA := Lib.hid hA; have HB := Lib.hid hB
  clear hA hB
  by_cases hbig : 200 < xs.length ∨ 200 < ys.length
  · generalize xs.length = N at *
    generalize ys.length = M at *
    by_cases h1 : 200 < N
    · clear hbig
      go_enter Try.func3, Try.ntmps3
      go_wp2
      go_ret
      exact ⟨rfl, Touch.refl _ _⟩
    · have h2 : 200 < M := by omega
      clear hbig
      have hd1 : decide (200 < (N : Int)) = false := by simp; omega
      go_enter Try.func3, Try.ntmps3
      go_wp2
      go_ret
      exact ⟨rfl, Touch.refl _ _⟩
  · have ha : xs.length ≤ 200 := by omega
    have hb : ys.length ≤ 200 := by omega
    clear hbig
    have la := BM.length_bits xs
    generalize hN : xs.length = N at *
    generalize hM : ys.length = M at *
    have HN := Lib.hid hN; have HM := Lib.hid hM
    clear hN hM
    go_enter Try.func3, Try.ntmps3
    go_wp2_with fail
    refine (new_c _).mono ?_
    rintro e w1 ⟨rfl, hW1, hT1⟩
    have HW1 := Lib.hid hW1; have HT1 := Lib.hid hT1
    have hs1 := hW1.cel.lt
    clear hW1 hT1
    go_wp2_with fail
    refine (written_c _ W.heap.size W.heap.size _ xs HW1.out (HA.out.to HT1.out (Nat.le_refl _) (fun _ _ e => e)) (by rw [HN.out]; omega)).mono ?_
    rintro e w2 ⟨v2, A2, c2, rfl, hWn⟩
    have hT2 : Touch W w2 (fun _ => False) := touch_new HT1.out hWn.touch (fun i hi => by omega)
    have hX2 := Sl.own hWn.all
    have HW2 := Lib.hid hWn.wr; have HT2 := Lib.hid hT2; have HX2 := Lib.hid hX2
    clear hT2 hWn hX2
    go_wp2_with fail
    refine (payload_c _ _ _ _ _ HW2.out (by omega)).mono ?_
    rintro e w3 ⟨A3, c3, rfl, ho3, ht3⟩
    have hT3 : Touch W w3 (fun _ => False) := HT2.out.trans ht3 (fun _ e => e.elim)
    have HS3 := Lib.hid (Sl.own ho3); have HT3 := Lib.hid hT3
    have HW3 := Lib.hid (HW2.out.kept0 ht3); have HX3 := Lib.hid (HX2.out.to ht3 (fun _ _ e => e))
    clear ho3 ht3 hT3 HX2 HW2
    go_wp2_with fail
    refine (rpay_c _ _ _ HX3.out (by omega)).mono ?_
    rintro e w4 ⟨A4, c4, rfl, ho4, ht4⟩
    have hT4 : Touch W w4 (fun _ => False) := HT3.out.trans ht4 (fun _ e => e.elim)
    have HS4 := Lib.hid (Sl.own ho4); have HT4 := Lib.hid hT4
    have HW4 := Lib.hid (HW3.out.kept0 ht4); have HX4 := Lib.hid (HX3.out.to ht4 (fun _ _ e => e)); have HP4 := Lib.hid (HS3.out.to ht4 (fun _ _ e => e))
    clear ho4 ht4 hT4 HX3 HW3 HS3
    go_wp2_with fail
    refine (same_c _ _ _ _ HP4.out HS4.out).mono ?_
    rintro e w5 ⟨rfl, rfl⟩
    have hmade := World.ownsRow_made w4 #[] 0 (base := W.heap.size) (e := 5) (size := 1) HT4.out.size (by unfold maxLen; omega) rfl
    have Hmade := Lib.hid hmade
    have hsz4 := HT4.out.size
    clear hmade
    go_wp2_with (at_builtin; refine wpl_append_sl rfl _ _ rfl W.heap.size _ _ 0 [] (BM.nat (BM.bits xs)) rfl rfl Hmade.out (HX4.out.to ((Touch.refl _ _).alloc _) (fun _ _ e => e)) ?c1 ?c2 ?_)
    case c1 => rw [BM.length_nat]; omega
    case c2 => simp; omega
    intro v6 w6 ho6 hg6 hat6
    rw [BM.length_nat] at ho6
    obtain ⟨A6, c6, rfl⟩ := own_slice ho6
    have ht6 : Touch w4 w6 (fun _ => False) := ((Touch.refl w4 _).alloc _).trans (Touch.grown (S := fun i => i = w4.heap.size) hg6 (fun i hi => .inl (by simp [Value.ownBlock] at hi; omega))) (fun i hi => .inr (by omega))
    have hfar6 : ∀ i, (Value.slice A6 (BM.bits xs).length c6).ownBlock = some i → v2.ownBlock ≠ some i := by
      intro i hi he
      have h2 := (HW4.out.own.lt i he).2
      rcases hat6 with e | e
      · rw [e] at hi; simp [Value.ownBlock] at hi; omega
      · rw [e] at hi; simp at hi; omega
    have hWw : Ww w6 W.heap.size W.heap.size v2 (.slice A6 (BM.bits xs).length c6) (BM.bits xs) := ⟨HW4.out.kept0 ht6, ho6, hfar6⟩
    have hT6 : Touch W w6 (fun _ => False) := HT4.out.trans ht6 (fun _ e => e.elim)
    have HWw := Lib.hid hWw; have HT6 := Lib.hid hT6
    clear hWw hT6 ht6 hfar6 ho6 hg6 hat6 Hmade HX4 HW4 HP4 HS4
    go_wp2_with fail
    go_loopw [8, 9] (fun va i wr => ∃ (k : Nat) (v : Value) (l : List Bool), k ≤ M ∧ i = .int .i64 (k : Int) ∧ l = BM.bits xs ++ BM.bits (ys.take k) ∧ Ww wr W.heap.size W.heap.size v va l ∧ Touch W wr (fun _ => False)) (fun _ i _ => M - (intOf i).toNat)
    case atStart => exact ⟨0, v2, BM.bits xs, by omega, rfl, by rw [List.take_zero]; simp [BM.bits], HWw.out, HT6.out⟩
    case round =>
      obtain ⟨k, v, l, hk, rfl, hl, hWw, hT⟩ := hrel
      obtain ⟨Aa, ca, rfl⟩ := own_slice hWw.all
      have hlb : l.length ≤ 20000 := by
        have h1 := BM.length_bits (ys.take k)
        have h2 := List.length_take_le k ys
        rw [hl, List.length_append]; omega
      have HWk := Lib.hid hWw; have HTk := Lib.hid hT; have Hl := Lib.hid hl
      have hszk := hT.size
      clear hWw hT hl
      by_cases hlt : k < M
      · have hO1 := HB.out.to HTk.out (Nat.le_refl _) (fun _ _ e => e)
        obtain ⟨go, o, x, m, rfl, hgo, hq, hx, hm1, hm2, hc0, hc1⟩ := hO1.at_ k (by rw [HM.out]; exact hlt)
        have hstep := BM.bits_take ys k (x, m) hq
        have Hst := Lib.hid hstep
        clear hO1 hq hstep
        go_wp2_with fail
        refine (written2_c _ W.heap.size W.heap.size v l x m HWk.out.wr (by omega) hx ⟨hm1, hm2⟩).mono ?_
        rintro e w7 ⟨v7, A7, c7, rfl, h2⟩
        have hall7 := own_kept HWk.out.all h2.touch (by
          intro i hi hf
          rcases hf with e | e
          · exact own_apart HWk.out.all HWk.out.wr.cel (by decide) (e ▸ hi)
          · exact HWk.out.far i hi e)
        have hfar7 : ∀ i, (Value.slice Aa l.length ca).ownBlock = some i → v7.ownBlock ≠ some i := by
          intro i hi he
          rcases h2.row with e | ⟨j, e, hj⟩
          · exact HWk.out.far i hi (e ▸ he)
          · rw [e] at he; injection he with he
            have := (HWk.out.all.lt i hi).2; omega
        have hT7 : Touch W w7 (fun _ => False) := touch_new HTk.out h2.touch (foot_new HWk.out.wr (Nat.le_refl _))
        have hsz7 := hT7.size
        have H2w := Lib.hid h2.wr; have H2b := Lib.hid h2.bits; have HT7 := Lib.hid hT7; have Hall7 := Lib.hid hall7; have Hfar7 := Lib.hid hfar7
        have hol := BM.length_one (x, m)
        clear h2 hall7 hfar7 hT7
        go_wp2_with (at_builtin; refine wpl_append_sl rfl _ _ rfl W.heap.size _ _ l.length (by8 (BM.nat l)) (BM.nat (BM.one (x, m))) rfl rfl Hall7.out (Sl.own H2b.out) ?c1 ?c2 ?_)
        case c1 => rw [BM.length_nat]; omega
        case c2 => omega
        intro v8 w8 ho8 hg8 hat8
        rw [BM.length_nat, ← by8_app, ← BM.nat_app] at ho8
        have ht8 : Touch w7 w8 (fun i => (Value.slice Aa l.length ca).ownBlock = some i) := Touch.grown hg8 (fun i hi => .inl hi)
        have hT8 : Touch W w8 (fun _ => False) := touch_new HT7.out ht8 (fun i hi => (Hall7.out.lt i hi).1)
        have hWw8 : Ww w8 W.heap.size W.heap.size v7 v8 (l ++ BM.one (x, m)) := by
          refine ⟨H2w.out.kept ht8 ?_, by rw [List.length_append]; exact ho8, ?_⟩
          · intro i hi he
            rcases hi with hi | hi
            · subst hi; exact own_apart Hall7.out H2w.out.cel (by decide) he
            · exact Hfar7.out i he hi
          · intro i hi he
            rcases hat8 with e | e
            · exact Hfar7.out i (e ▸ hi) he
            · rw [e] at hi; injection hi with hi
              have := (H2w.out.own.lt i he).2; omega
        have HW8 := Lib.hid hWw8; have HT8 := Lib.hid hT8
        clear hWw8 hT8 ht8 ho8 hg8 hat8
        go_wp2_with fail
        go_roundw
        case rel =>
          refine ⟨k + 1, v7, l ++ BM.one (x, m), by omega, by go_num, ?_, HW8.out, HT8.out⟩
          rw [Hst.out, Hl.out, List.append_assoc]
        case measure => simp [intOf]; omega
      · obtain rfl : k = M := by omega
        go_wp2_with fail
        refine (awake_c _).mono ?_
        rintro e w7 ⟨rfl, ht7⟩
        have hT7 : Touch W w7 (fun _ => False) := HTk.out.trans ht7 (fun _ e => e.elim)
        have HW7 := Lib.hid (HWk.out.kept0 ht7); have HT7 := Lib.hid hT7
        clear ht7 hT7
        go_wp2_with fail
        refine (payload_c _ _ _ _ _ HW7.out.wr (by omega)).mono ?_
        rintro e w8 ⟨A8, c8, rfl, ho8, ht8⟩
        have hT8 : Touch W w8 (fun _ => False) := HT7.out.trans ht8 (fun _ e => e.elim)
        have HS8 := Lib.hid (Sl.own ho8); have HT8 := Lib.hid hT8; have HW8 := Lib.hid (HW7.out.kept0 ht8)
        clear ho8 ht8 hT8
        go_wp2_with fail
        refine (rpay_c _ _ l (Sl.own HW8.out.all) (by omega)).mono ?_
        rintro e w9 ⟨A9, c9, rfl, ho9, ht9⟩
        have hT9 : Touch W w9 (fun _ => False) := HT8.out.trans ht9 (fun _ e => e.elim)
        have HS9 := Lib.hid (Sl.own ho9); have HT9 := Lib.hid hT9; have HP9 := Lib.hid (HS8.out.to ht9 (fun _ _ e => e))
        clear ho9 ht9 hT9
        go_wp2_with fail
        refine (same_c _ _ _ _ HP9.out HS9.out).mono ?_
        rintro e w10 ⟨rfl, rfl⟩
        go_wp2
        go_ret
        exact ⟨rfl, HT9.out⟩
end Go.Proofs.Ytmogpacbfgiccaa
