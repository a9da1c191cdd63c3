/- The law of Back. -/
import Derived.Test.YtpkjogjdacogeaaDoorStK
namespace Go.Proofs.YtpkjogjdacogeaaDoor
open Go.RowKit Go.Sort
set_option linter.unusedVariables false
set_option linter.unusedSimpArgs false

set_option maxHeartbeats 800000 in
theorem lawBack_c (w : World) (vl vp : Value) (us : List (Int × List Nat)) (h : Us w w.heap.size vl us) (pads : List Int) (hp : Il w w.heap.size vp pads) :
    Calls Tryd.prog 4 #[vl, vp] w fun e w' => e = .returned (.bool true) ∧ Touch w w' (fun _ => False) := by
  have hform := formed_c w w.heap.size vl us h (Nat.le_refl _)
  have Hform := Lib.hid hform; have H := Lib.hid h; have Hp := Lib.hid hp
  clear hform h hp
  go_enter Tryd.func4, Tryd.ntmps4
  go_wp2_with fail
  refine Hform.out.mono ?_
  rintro e w1 ⟨b, rfl, hbf, ht1⟩
  have Ht1 := Lib.hid ht1
  have Hbf := Lib.hid hbf
  have hs1 := ht1.size
  clear ht1 hbf
  cases b with
  | false =>
    go_wp2_with fail
    refine (awake_c _).mono ?_
    rintro e w2 ⟨rfl, ht2⟩
    have Ht2 := Lib.hid ht2
    clear ht2
    go_wp2_with fail
    go_ret
    exact ⟨rfl, Ht1.out.trans Ht2.out (fun i hi => .inl hi)⟩
  | true =>
    have hF : SM.Formed us := Hbf.out.1 rfl
    have hpw : Il w1 w.heap.size vp pads := by
      refine ⟨Hp.out.1, ?_⟩
      rcases Hp.out.2 with h0 | ⟨g, o, cap, e, h2, h3, h4⟩
      · exact .inl h0
      · exact .inr ⟨g, o, cap, e, h2, h3, fun k z hz => (Ht1.out.cell (p := ⟨g, o + k, none⟩) h3 (fun h => h)).trans (h4 k z hz)⟩
    have hj := joined_c w1 w.heap.size vl vp us pads (H.out.to Ht1.out (Nat.le_refl _) (fun _ _ h => h)) hpw hs1 hF
    have hall := SM.zsT_fmd pads hF.2 us.length (Nat.le_refl _)
    have hback := SM.back _ hall
    have hfl := SM.flat_le pads hF.2 us.length (Nat.le_refl _)
    have hus := hF.1
    have hbyte : ∀ x ∈ SM.flat (SM.zsT us pads us.length), x < 256 := SM.flat_byte (fun z hz => ⟨hall z hz, (H.out.1 _ (SM.zsT_mem pads us.length (Nat.le_refl _) z hz)).2⟩)
    have hwl : (SM.want 0 (SM.zsT us pads us.length)).length ≤ 20 := by rw [SM.want_length, SM.zsT_length]; exact hus
    generalize SM.zsT us pads us.length = zs at *
    have Hj := Lib.hid hj; have Hback := Lib.hid hback; have Hbyte := Lib.hid hbyte
    clear hj hF hall hback hbyte hpw Hbf
    go_wp2_with fail
    refine Hj.out.mono ?_
    rintro e w2 ⟨vb, vw, rfl, hob, how, -, ht2⟩
    have hsp := split_c w2 vb _ (Sl.own hob) (by omega) Hbyte.out
    rw [Hback.out.1, Hback.out.2] at hsp
    have Hsp := Lib.hid hsp; have How := Lib.hid how; have Ht2 := Lib.hid ht2
    have hs2 := ht2.size
    obtain ⟨Aw, cw, rfl⟩ := how.slice
    clear hsp how ht2 hob
    go_wp2_with fail
    refine Hsp.out.mono ?_
    rintro e w3 ⟨vu, vd, rfl, hof, hod, ht3⟩
    have how3 := How.out.to0 ht3
    have hs3 := ht3.size
    obtain ⟨Au, cu, rfl⟩ := hof.slice
    obtain ⟨Ad, cd, rfl⟩ : ∃ A c, vd = .slice A 0 c := own_slice hod
    have Hof := Lib.hid hof; have How3 := Lib.hid how3; have Ht3 := Lib.hid ((Ht1.out.trans Ht2.out (fun i hi => .inl hi)).trans ht3 (fun i hi => .inl hi))
    clear hof how3 ht3 hod
    generalize SM.want 0 zs = hs at *
    generalize hn : hs.length = n at *
    have Hn := Lib.hid hn
    clear hn
    go_wp2_with fail
    go_loopw [10] (fun i wr => ∃ k : Nat, k ≤ n ∧ i = .int .i64 (k : Int) ∧ Touch w3 wr (fun _ => False)) (fun i _ => n - (intOf i).toNat)
    case atStart => exact ⟨0, Nat.zero_le _, rfl, Touch.refl _ _⟩
    case round =>
      obtain ⟨k, hk, rfl, hT⟩ := hrel
      have HT := Lib.hid hT
      have hsr := hT.size
      by_cases hlt : k < n
      · obtain ⟨g, hh, u, rfl, -, hgb, hg, hu, q0, q1, q2, q3, q4, hpay⟩ := (Hof.out.to0 hT).at_ k (by rw [Hn.out]; exact hlt)
        obtain ⟨g', hh', u', rfl, -, hgb', hg', hu', p0, p1, p2, p3, p4, hpay'⟩ := (How3.out.to0 hT).at_ k (by rw [Hn.out]; exact hlt)
        rw [hu] at hu'
        injection hu' with hu'
        subst hu'
        have hsame := same_eq (w := wr) (Nat.zero_le _) (Nat.zero_le _) hh u u' hpay.1 hpay'.1
        obtain ⟨A3, c3, rfl⟩ := hpay.1.len
        obtain ⟨A4, c4, rfl⟩ := hpay'.1.len
        have r0 := cell_regrown q0
        have r1 := cell_regrown q1
        have r2 := cell_regrown q2
        have r3 := cell_regrown q3
        have r4 := cell_regrown q4
        have s0 := cell_regrown p0
        have s1 := cell_regrown p1
        have s2 := cell_regrown p2
        have s3 := cell_regrown p3
        have s4 := cell_regrown p4
        have Hsame := Lib.hid hsame
        clear q0 q1 q2 q3 q4 p0 p1 p2 p3 p4 hpay hpay' hsame hu hT
        go_wp2_with fail
        refine wp_region_quiet_below (by kernel_rfl) (by kernel_rfl) ?_
        repeat (quiet_step (exact Hsame.out _ _))
        refine wpQuiet_nil ?_
        intro _ hw'
        obtain ⟨⟨dq, osq⟩, hw''⟩ := hw'
        have hbq := touch_of (below_regrown wr dq osq)
        rw [← hw''] at hbq
        have Hbq := Lib.hid hbq
        clear hbq hw'' r0 r1 r2 r3 r4 s0 s1 s2 s3 s4
        go_wp2_with fail
        go_roundw
        case rel => exact ⟨k + 1, by omega, by go_num, HT.out.trans Hbq.out (fun i hi => .inl hi)⟩
        case measure => simp [intOf]; omega
      · go_wp2_with fail
        refine (awake_c _).mono ?_
        rintro e w4 ⟨rfl, ht4⟩
        have Ht4 := Lib.hid ht4
        clear ht4
        go_wp2_with fail
        go_ret
        exact ⟨rfl, (Ht3.out.trans HT.out (fun i hi => .inl hi)).trans Ht4.out (fun i hi => .inl hi)⟩
end Go.Proofs.YtpkjogjdacogeaaDoor
