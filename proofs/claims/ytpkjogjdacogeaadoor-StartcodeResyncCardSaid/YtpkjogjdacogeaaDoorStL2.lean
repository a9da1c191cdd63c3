/- The law of Resync. -/
import Derived.Test.YtpkjogjdacogeaaDoorStK
import Derived.Deep.Cut
import Derived.Deep.DeepCutAuto
namespace Go.Proofs.YtpkjogjdacogeaaDoor
open Go.RowKit Go.Sort
set_option linter.unusedVariables false
set_option linter.unusedSimpArgs false

set_option maxHeartbeats 1600000 in
theorem lawResync_c (w : World) (vx vl : Value) (xs : List Nat) (hx : Sl w vx xs) (hxb : ∀ x ∈ xs, x < 256) (us : List (Int × List Nat)) (h : Us w w.heap.size vl us) :
    Calls Tryd.prog 5 #[vx, vl] w fun e w' => e = .returned (.bool true) ∧ Touch w w' (fun _ => False) := by
  have Hform := Lib.hid (formed_c w w.heap.size vl us h (Nat.le_refl _))
  have H := Lib.hid h; have Hx := Lib.hid hx; have Hxb := Lib.hid hxb
  obtain ⟨Al, cl, rfl⟩ := h.len
  obtain ⟨Ax, cx, rfl⟩ := hx.len
  have Haw := Lib.hid (awake_c w)
  clear h hx hxb
  by_cases hl : 200 < xs.length
  · go_enter Tryd.func5, Tryd.ntmps5
    go_wp2_with fail
    refine Haw.out.mono ?_
    rintro e w2 ⟨rfl, ht2⟩
    have Ht2 := Lib.hid ht2
    clear ht2
    go_wp2_with fail
    go_ret
    exact ⟨rfl, Ht2.out⟩
  by_cases hu0 : us.length = 0
  · generalize us.length = n at *
    subst hu0
    go_enter Tryd.func5, Tryd.ntmps5
    go_wp2_with fail
    refine Haw.out.mono ?_
    rintro e w2 ⟨rfl, ht2⟩
    have Ht2 := Lib.hid ht2
    clear ht2
    go_wp2_with fail
    go_ret
    exact ⟨rfl, Ht2.out⟩
  have hz : (((us.length : Nat) : Int) == 0) = false := beq_eq_false_iff_ne.2 (by omega)
  have hz2 : (us.length = 0) = False := eq_false hu0
  go_enter Tryd.func5, Tryd.ntmps5
  go_wp2_with fail
  refine Hform.out.mono ?_
  rintro e w1 ⟨b, rfl, hbf, ht1⟩
  have Ht1 := Lib.hid ht1
  have Hbf := Lib.hid hbf
  have hs1 := ht1.size
  clear ht1 hbf
  cases b with
  | false =>
    go_wp2_with fail
    refine (awake_c _).mono ?_
    rintro e w2 ⟨rfl, ht2⟩
    have Ht2 := Lib.hid ht2
    clear ht2
    go_wp2_with fail
    go_ret
    exact ⟨rfl, Ht1.out.trans Ht2.out (fun i hi => .inl hi)⟩
  | true =>
    have hF : SM.Formed us := Hbf.out.1 rfl
    have hj := joined_c w1 w.heap.size _ (.slice none 0 0) us [] (H.out.to Ht1.out (Nat.le_refl _) (fun _ _ h => h)) ⟨by simp, .inl ⟨_, _, rfl, rfl⟩⟩ hs1 hF
    have hall := SM.zsT_fmd [] hF.2 us.length (Nat.le_refl _)
    have hall0 : ∀ z ∈ SM.zsT us [] us.length, SM.Fmd z.2 ∧ z.1 = 0 := fun z hz => ⟨hall z hz, SM.zsT_zero us us.length z hz⟩
    have hne : SM.zsT us [] us.length ≠ [] := fun e => hu0 (by have := SM.zsT_length us [] us.length; rw [e] at this; exact this.symm)
    have hres := SM.resync xs _ hall0 hne
    have hsh := SM.want_shift xs.length (SM.zsT us [] us.length) 0
    rw [Nat.zero_add] at hsh
    rw [hsh] at hres
    have hfl := SM.flat_le [] hF.2 us.length (Nat.le_refl _)
    have hus := hF.1
    have hbyte : ∀ x ∈ SM.flat (SM.zsT us [] us.length), x < 256 := SM.flat_byte (fun z hz => ⟨hall z hz, (H.out.1 _ (SM.zsT_mem [] us.length (Nat.le_refl _) z hz)).2⟩)
    have hwl : (SM.want 0 (SM.zsT us [] us.length)).length = us.length := by rw [SM.want_length, SM.zsT_length]
    have hby2 : ∀ y ∈ xs ++ SM.flat (SM.zsT us [] us.length), y < 256 := by
      intro y hy
      rw [List.mem_append] at hy
      rcases hy with hy | hy
      · exact Hxb.out y hy
      · exact hbyte y hy
    generalize SM.zsT us [] us.length = zs at *
    have Hj := Lib.hid hj; have Hres := Lib.hid hres; have Hby2 := Lib.hid hby2; have Hwl := Lib.hid hwl
    clear hj hF hall hall0 hne hres hsh hbyte hby2 hwl Hbf
    go_wp2_with fail
    refine Hj.out.mono ?_
    rintro e w2 ⟨vb, vw, rfl, hob, how, -, ht2⟩
    have How := Lib.hid how; have Ht2 := Lib.hid (Ht1.out.trans ht2 (fun i hi => .inl hi)); have Hob := Lib.hid (Sl.own hob)
    have hs2 := ht2.size
    obtain ⟨Aw, cw, rfl⟩ := how.slice
    obtain ⟨Ab, cb, rfl⟩ := own_slice hob
    have hX : (SM.flat zs).length ≤ 5000 := by omega
    clear how ht2 hob
    go_wp2_with (at_builtin; refine wpl_append_ow (by rfl) _ _ (by rfl) w2.heap.size _ _ [] xs (by rfl) (by rfl) (.inl ⟨⟨w2.heap.size, 0, none⟩, rfl, rfl⟩) ((Hx.out.to Ht2.out (fun _ _ _ h => h)).to ((Touch.refl _ (fun _ => False)).alloc _) (fun _ _ _ h => h)) (by simp; omega) (by simp) ?_)
    intro v3 w3 ho3 ht3 _
    have T3 : Touch w2 w3 (fun _ => False) := ((Touch.refl _ _).alloc _).trans ht3 (fun i hi => .inr hi.1)
    have hs3 := T3.size
    have Ho3 := Lib.hid ho3; have HT3 := Lib.hid T3
    clear ho3 ht3 T3
    go_wp2_with (at_builtin; refine wpl_append_ow (by rfl) _ _ (by rfl) w2.heap.size _ _ xs (SM.flat zs) (by rfl) (by rfl) Ho3.out (Hob.out.to HT3.out (fun _ _ _ h => h)) (by omega) (by omega) ?_)
    intro v4 w4 ho4 ht4 _
    have T4 : Touch w2 w4 (fun _ => False) := HT3.out.trans ht4 (fun i hi => .inr hi.1)
    have hsp := split_c w4 v4 _ ho4.sl (by simp; omega) Hby2.out
    rw [Hres.out] at hsp
    have Hsp := Lib.hid hsp; have HT4 := Lib.hid T4
    have hs4 := T4.size
    clear ho4 ht4 T4 hsp
    go_wp2_with fail
    refine Hsp.out.mono ?_
    rintro e w5 ⟨vu, vd, rfl, hof, hod, ht5⟩
    have how5 := (How.out.to0 HT4.out).to0 ht5
    have hs5 := ht5.size
    have Ht5 := Lib.hid ((Ht2.out.trans HT4.out (fun i hi => .inl hi)).trans ht5 (fun i hi => .inl hi))
    have hUl := SM.units_length xs
    generalize SM.units xs = U at *
    have hwb := SM.want_bound zs 0
    generalize SM.want 0 zs = W at *
    have Hwb := Lib.hid hwb
    clear hwb
    have hlen : (U ++ W.map (SM.shift xs.length)).length = U.length + us.length := by simp; exact Hwl.out
    obtain ⟨Au, cu, rfl⟩ := hof.slice
    have hof2 := hof
    rw [hlen] at hof2
    have hcap0 := hof.cap (by omega)
    rw [hlen] at hcap0
    obtain ⟨g, rfl, hcu⟩ := hcap0
    rw [hlen, Hwl.out]
    have Hof := Lib.hid hof2; have How5 := Lib.hid how5
    clear hof hof2 how5 ht5 hod hlen
    have hUp : U.length ≤ 200 := by omega
    have hWl := Hwl.out
    generalize hUn : U.length = un at *
    generalize us.length = n at *
    have HUn := Lib.hid hUn; have HWl := Lib.hid hWl
    clear hUn hWl
    go_wp2_with fail
    go_loopw [10] (fun i wr => ∃ k : Nat, k ≤ n ∧ i = .int .i64 (k : Int) ∧ Touch w5 wr (fun _ => False)) (fun i _ => n - (intOf i).toNat)
    case atStart => exact ⟨0, Nat.zero_le _, rfl, Touch.refl _ _⟩
    case round =>
      obtain ⟨k, hk, rfl, hT⟩ := hrel
      have HT := Lib.hid hT
      have hsr := hT.size
      by_cases hlt : k < n
      · obtain ⟨g1, hh, u, hg1, -, hgb, hg, hu, q0, q1, q2, q3, q4, hpay⟩ := (Hof.out.to0 hT).at_ (un + k) (by rw [List.length_append, List.length_map, HUn.out, HWl.out]; omega)
        obtain ⟨g', hh', u', rfl, -, hgb', hg', hu', p0, p1, p2, p3, p4, hpay'⟩ := (How5.out.to0 hT).at_ k (by rw [HWl.out]; exact hlt)
        injection hg1 with hg1
        injection hg1 with hg1
        subst hg1
        have hsh : hh = SM.shift xs.length hh' := by
          rw [List.getElem?_append_right (by rw [HUn.out]; omega), HUn.out, show un + k - un = k by omega, List.getElem?_map, hu'] at hu
          simpa using hu.symm
        subst hsh
        obtain ⟨A3, c3, rfl⟩ := hpay.1.len
        obtain ⟨A4, c4, rfl⟩ := hpay'.1.len
        simp only [Nat.add_mul] at q0 q1 q2 q3 q4
        have hbd := Hwb.out hh' (List.mem_of_getElem? hu')
        have hf := hbd.1; have ho := hbd.2.1; have hxx := hbd.2.2
        rw [Nat.zero_add] at hf ho hxx
        clear hu hu' hT hbd
        go_upto_region 15 with fail
        have c7 := Cel.made wr 36 #[.int .i64 hh'.t, .slice A4 hh'.p.length c4, .int .i64 ((hh'.f : Int) + (xs.length : Int)), .int .i64 ((hh'.o : Int) + (xs.length : Int)), .int .i64 ((hh'.x : Int) + (xs.length : Int))]
        have t7 : Touch wr (wr.alloc (.cells #[.int .i64 hh'.t, .slice A4 hh'.p.length c4, .int .i64 ((hh'.f : Int) + (xs.length : Int)), .int .i64 ((hh'.o : Int) + (xs.length : Int)), .int .i64 ((hh'.x : Int) + (xs.length : Int))] 36)) (fun _ => False) := (Touch.refl _ _).alloc _
        obtain ⟨w7, hw7⟩ : ∃ w7, w7 = wr.alloc (.cells #[.int .i64 hh'.t, .slice A4 hh'.p.length c4, .int .i64 ((hh'.f : Int) + (xs.length : Int)), .int .i64 ((hh'.o : Int) + (xs.length : Int)), .int .i64 ((hh'.x : Int) + (xs.length : Int))] 36) := ⟨_, rfl⟩
        rw [← hw7] at c7 t7
        rw [← hw7]
        clear hw7
        have hsame := same_eq (w := w7) (Nat.zero_le _) (Nat.zero_le _) (SM.shift xs.length hh') _ _ (hpay.1.to t7 (fun _ _ _ h => h)) (hpay'.1.to t7 (fun _ _ _ h => h))
        have b0 := c7.cell 0; have b1 := c7.cell 1; have b2 := c7.cell 2; have b3 := c7.cell 3; have b4 := c7.cell 4
        simp at b0 b1 b2 b3 b4
        have keep : ∀ (off : Nat) (v : Value), wr.cell? ⟨g, off, none⟩ = some v → w7.cell? ⟨g, off, none⟩ = some v := fun off v h => (t7.cell (p := ⟨g, off, none⟩) hg (fun h => h)).trans h
        have r0 := cell_regrown (keep _ _ q0)
        have r1 := cell_regrown (keep _ _ q1)
        have r2 := cell_regrown (keep _ _ q2)
        have r3 := cell_regrown (keep _ _ q3)
        have r4 := cell_regrown (keep _ _ q4)
        have s0 := cell_regrown b0
        have s1 := cell_regrown b1
        have s2 := cell_regrown b2
        have s3 := cell_regrown b3
        have s4 := cell_regrown b4
        have Hsame := Lib.hid hsame
        have HT7 := Lib.hid t7
        clear q0 q1 q2 q3 q4 p0 p1 p2 p3 p4 b0 b1 b2 b3 b4 hpay hpay' hsame c7 t7 keep
        refine wp_region_quiet_below (by kernel_rfl) (by kernel_rfl) ?_
        repeat (quiet_step (exact Hsame.out _ _))
        refine wpQuiet_nil ?_
        intro _ hw'
        obtain ⟨⟨dq, osq⟩, hw''⟩ := hw'
        have hbq := touch_of (below_regrown w7 dq osq)
        rw [← hw''] at hbq
        have Hbq := Lib.hid hbq
        clear hbq hw'' r0 r1 r2 r3 r4 s0 s1 s2 s3 s4
        go_wp2_with fail
        go_roundw
        case rel => exact ⟨k + 1, by omega, by go_num, (HT.out.trans HT7.out (fun i hi => .inl hi)).trans Hbq.out (fun i hi => .inl hi)⟩
        case measure => simp [intOf]; omega
      · go_wp2_with fail
        refine (awake_c _).mono ?_
        rintro e w8 ⟨rfl, ht8⟩
        have Ht8 := Lib.hid ht8
        clear ht8
        go_wp2_with fail
        go_ret
        exact ⟨rfl, (Ht5.out.trans HT.out (fun i hi => .inl hi)).trans Ht8.out (fun i hi => .inl hi)⟩
end Go.Proofs.YtpkjogjdacogeaaDoor
