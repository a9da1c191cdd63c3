/- The law of Damage. -/
import Derived.Test.YtpkjogjdacogeaaDoorStK2
import Derived.Deep.Cut
import Derived.Deep.DeepCutAuto
import Derived.Deep.QuietTactic
namespace Go.Proofs.YtpkjogjdacogeaaDoor
open Go.RowKit Go.Sort
set_option linter.unusedVariables false
set_option linter.unusedSimpArgs false

/-- where nothing is changed: an argument is out of its range -/
theorem damage_none (w : World) (vl : Value) (us : List (Int × List Nat)) (h : Us w w.heap.size vl us) (k at_ : Int) (by_ : Nat) (hk0 : -9223372036854775808 ≤ k ∧ k ≤ 9223372036854775807) (ha0 : -9223372036854775808 ≤ at_ ∧ at_ ≤ 9223372036854775807) (hb0 : by_ < 256)
    (hbad : us.length = 0 ∨ k < 0 ∨ (us.length : Int) ≤ k ∨ at_ < 0 ∨ by_ = 0) :
    Calls Tryd.prog 6 #[vl, .int .i64 k, .int .i64 at_, .int .u8 (by_ : Int)] w fun e w' => e = .returned (.bool true) ∧ Touch w w' (fun _ => False) := by
  have Hform := Lib.hid (formed_c w w.heap.size vl us h (Nat.le_refl _))
  obtain ⟨Al, cl, rfl⟩ := h.len
  have Haw := Lib.hid (fun w => awake_c w)
  clear h
  by_cases hu0 : us.length = 0
  · generalize us.length = n at *
    subst hu0
    go_enter Tryd.func6, Tryd.ntmps6
    go_wp2_with fail
    refine (Haw.out _).mono ?_
    rintro e w2 ⟨rfl, ht2⟩
    have Ht2 := Lib.hid ht2
    clear ht2
    go_wp2_with fail
    go_ret
    exact ⟨rfl, Ht2.out⟩
  have hz : (((us.length : Nat) : Int) == 0) = false := beq_eq_false_iff_ne.2 (by omega)
  have hz2 : (us.length = 0) = False := eq_false hu0
  have key : ∀ (d1 d2 d3 d4 : Bool), decide (k < 0) = d1 → decide ((us.length : Int) ≤ k) = d2 → decide (at_ < 0) = d3 → ((by_ : Int) == 0) = d4 → (d1 || (d2 || (d3 || d4))) = true →
      Calls Tryd.prog 6 #[.slice Al us.length cl, .int .i64 k, .int .i64 at_, .int .u8 (by_ : Int)] w fun e w' => e = .returned (.bool true) ∧ Touch w w' (fun _ => False) := by
    intro d1 d2 d3 d4 h1 h2 h3 h4 hd
    clear hbad
    go_enter Tryd.func6, Tryd.ntmps6
    go_wp2_with fail
    refine Hform.out.mono ?_
    rintro e w1 ⟨b, rfl, hbf, ht1⟩
    have Ht1 := Lib.hid ht1
    clear ht1 hbf
    cases b
    · go_wp2_with fail
      refine (Haw.out _).mono ?_
      rintro e w2 ⟨rfl, ht2⟩
      have Ht2 := Lib.hid ht2
      clear ht2
      go_wp2_with fail
      go_ret
      exact ⟨rfl, Ht1.out.trans Ht2.out (fun i hi => .inl hi)⟩
    · cases d1 <;> cases d2 <;> cases d3 <;> cases d4 <;> first | (exfalso; revert hd; decide) | skip
      all_goals
        go_wp2_with fail
        refine (Haw.out _).mono ?_
        rintro e w2 ⟨rfl, ht2⟩
        have Ht2 := Lib.hid ht2
        clear ht2
        go_wp2_with fail
        go_ret
        exact ⟨rfl, Ht1.out.trans Ht2.out (fun i hi => .inl hi)⟩
  refine key _ _ _ _ rfl rfl rfl rfl ?_
  simp only [Bool.or_eq_true, decide_eq_true_eq, beq_iff_eq]
  omega

theorem zsT_get (us : List (Int × List Nat)) : ∀ n k, k < n → (SM.zsT us [] n)[k]? = some (0, us.getD k (0, [])) := by
  intro n
  induction n with
  | zero => intro k hk; omega
  | succ n ih =>
    intro k hk
    rw [SM.zsT]
    rcases Nat.lt_or_ge k n with h | h
    · rw [List.getElem?_append_left (by rw [SM.zsT_length]; exact h)]
      exact ih k h
    · obtain rfl : k = n := by omega
      rw [List.getElem?_append_right (by rw [SM.zsT_length]; omega), SM.zsT_length]
      simp [SM.padAt]

set_option maxHeartbeats 4000000 in
theorem damage_some (w : World) (vl : Value) (us : List (Int × List Nat)) (h : Us w w.heap.size vl us) (k m0 by_ : Nat) (hm0 : m0 ≤ 9223372036854775807) (hb0 : by_ < 256) (hk : k < us.length) (hb1 : by_ ≠ 0) :
    Calls Tryd.prog 6 #[vl, .int .i64 (k : Int), .int .i64 (m0 : Int), .int .u8 (by_ : Int)] w fun e w' => e = .returned (.bool true) ∧ Touch w w' (fun _ => False) := by
  have Hform := Lib.hid (formed_c w w.heap.size vl us h (Nat.le_refl _))
  have H := Lib.hid h
  obtain ⟨Al, cl, rfl⟩ := h.len
  clear h
  have hz : (((us.length : Nat) : Int) == 0) = false := beq_eq_false_iff_ne.2 (by omega)
  have hz2 : (us.length = 0) = False := eq_false (by omega)
  have hyz : (((by_ : Nat) : Int) == 0) = false := beq_eq_false_iff_ne.2 (by omega)
  have hyz2 : (by_ = 0) = False := eq_false hb1
  have hkn : decide ((k : Int) < 0) = false := decide_eq_false (by omega)
  have hmn : decide ((m0 : Int) < 0) = false := decide_eq_false (by omega)
  have hkl : decide ((us.length : Int) ≤ (k : Int)) = false := decide_eq_false (by omega)
  go_enter Tryd.func6, Tryd.ntmps6
  go_wp2_with fail
  refine Hform.out.mono ?_
  rintro e w1 ⟨b, rfl, hbf, ht1⟩
  have Ht1 := Lib.hid ht1
  have Hbf := Lib.hid hbf
  have hs1 := ht1.size
  clear ht1 hbf
  cases b with
  | false =>
    go_wp2_with fail
    refine (awake_c _).mono ?_
    rintro e w2 ⟨rfl, ht2⟩
    have Ht2 := Lib.hid ht2
    clear ht2
    go_wp2_with fail
    go_ret
    exact ⟨rfl, Ht1.out.trans Ht2.out (fun i hi => .inl hi)⟩
  | true =>
    have hF : SM.Formed us := Hbf.out.1 rfl
    have hj := joined_c w1 w.heap.size _ (.slice none 0 0) us [] (H.out.to Ht1.out (Nat.le_refl _) (fun _ _ h => h)) ⟨by simp, .inl ⟨_, _, rfl, rfl⟩⟩ hs1 hF
    have hall := SM.zsT_fmd [] hF.2 us.length (Nat.le_refl _)
    have hall0 : ∀ z ∈ SM.zsT us [] us.length, SM.Fmd z.2 ∧ z.1 = 0 := fun z hz => ⟨hall z hz, SM.zsT_zero us us.length z hz⟩
    have hfl := SM.flat_le [] hF.2 us.length (Nat.le_refl _)
    have hus := hF.1
    have hpb : ∀ z ∈ SM.zsT us [] us.length, ∀ x ∈ z.2.2, x < 256 := fun z hz => (H.out.1 _ (SM.zsT_mem [] us.length (Nat.le_refl _) z hz)).2
    have hbyte : ∀ x ∈ SM.flat (SM.zsT us [] us.length), x < 256 := SM.flat_byte (fun z hz => ⟨hall z hz, hpb z hz⟩)
    have hwl : (SM.want 0 (SM.zsT us [] us.length)).length = us.length := by rw [SM.want_length, SM.zsT_length]
    have hzk := zsT_get us us.length k hk
    generalize us.getD k (0, []) = q at *
    generalize SM.zsT us [] us.length = zs at *
    have hq : SM.Fmd q := (hall0 _ (List.mem_of_getElem? hzk)).1
    have hwk : (SM.want 0 zs)[k]? = some ((SM.want 0 zs)[k]'(by rw [hwl]; exact hk)) := List.getElem?_eq_getElem _
    obtain ⟨wt, wpp, wf, wo⟩ := SM.want_at zs 0 k _ _ hzk hwk
    rw [Nat.zero_add] at wf
    have hlf : (SM.flat (zs.take k)).length + (SM.one q).length ≤ (SM.flat zs).length := by
      have e := congrArg List.length (congrArg SM.flat (SM.split_at zs k _ hzk))
      rw [SM.flat_app, SM.flat_cons] at e
      simp at e
      omega
    have hol := SM.one_le q hq
    have hlo := SM.length_one q
    have hfound := SM.found zs k
    have hwmem := SM.want_mem zs 0
    have Hj := Lib.hid hj; have Hall0 := Lib.hid hall0; have Hpb := Lib.hid hpb; have Hbyte := Lib.hid hbyte; have Hwl := Lib.hid hwl; have Hzk := Lib.hid hzk; have Hfound := Lib.hid hfound; have Hwk := Lib.hid hwk; have Hwmem := Lib.hid hwmem
    clear hj hF hall hall0 hpb hbyte hzk hq hfound hwk Hbf hwmem
    generalize hX : SM.flat zs = X at *
    generalize (SM.want 0 zs)[k] = hk0 at *
    go_wp2_with fail
    refine Hj.out.mono ?_
    rintro e w2 ⟨vb, vw, rfl, hob, how, hstab, ht2⟩
    rw [hX] at hob
    have Ht2 := Lib.hid (Ht1.out.trans ht2 (fun i hi => .inl hi))
    have hs2 := ht2.size
    obtain ⟨Aw, cw, rfl⟩ := how.slice
    rw [hwl]
    obtain ⟨g', hh', u', rfl, -, hgb', hg', hu', p0, p1, p2, p3, p4, hpay'⟩ := how.at_ k (by rw [Hwl.out]; exact hk)
    have Hhh : hh' = hk0 := by rw [Hwk.out] at hu'; exact (Option.some.inj hu').symm
    subst Hhh
    have How := Lib.hid how
    have hXp : 0 < X.length := by omega
    generalize hLf : (SM.flat (zs.take k)).length = Lf at *
    generalize hLe : (SM.esc q.2).length = Le at *
    rw [hlo] at wo hlf hol
    rw [wo, wf] at p3
    rw [wf] at p2
    simp only [Nat.add_zero] at p2 p3
    obtain ⟨gb, cb, rfl, hbb, hgb2, hcb1, hcb2, hbcell, hbfree⟩ := own_some hob hXp
    have Hob := Lib.hid hob
    have hvb : ∀ i, (Value.slice (some ⟨g', 0, none⟩) us.length cw).ownBlock = some i → i ≠ gb := by
      obtain ⟨qs, e, ho, hp⟩ := How.out
      intro i hi e2
      exact rows_apart ho Hob.out (by decide) i hi (by rw [e2]; rfl)
    have Hbcell := Lib.hid hbcell; have Hbfree := Lib.hid hbfree; have Hstab := Lib.hid hstab; have Hvb := Lib.hid hvb
    clear hbcell hbfree hstab hvb how hob hu' ht2 wo wf hwl hlo hpay' p0 p1 p4
    go_wp2_with fail
    have hsub : (Lf : Int) + (4 + (Le : Int)) - (Lf : Int) - 4 = (Le : Int) := by omega
    go_quiet (fail)
    have p2' : ∀ n, (w2.drewN n).cell? ⟨g', k * 5 + 2, none⟩ = some (.int .i64 (Lf : Int)) := fun _ => p2
    have hLf : Lf ≤ 5000 := by omega
    have hLe : Le ≤ 5000 := by omega
    by_cases hle : Le = 0
    · subst hle
      go_wp2_with fail
      refine (awake_c _).mono ?_
      rintro e w3 ⟨rfl, ht3⟩
      have Ht3 := Lib.hid ht3
      clear ht3
      go_wp2_with fail
      go_ret
      exact ⟨rfl, (Ht2.out.drewN _).trans Ht3.out (fun i hi => .inl hi)⟩
    · have hpos : 0 < Le := by omega
      have hm : m0 % Le < Le := Nat.mod_lt _ hpos
      have hmod : (m0 : Int).tmod (Le : Int) = ((m0 % Le : Nat) : Int) := by rw [Int.tmod_eq_emod_of_nonneg (by omega)]; simp
      have hmod2 : (m0 : Int) % (Le : Int) = ((m0 % Le : Nat) : Int) := by simp
      have hle2 : ((Le : Int) == 0) = false := beq_eq_false_iff_ne.2 (by omega)
      generalize m0 % Le = m at *
      have hPl : Lf + 4 + m < X.length := by omega
      have hbc := Hbcell.out (Lf + 4 + m) (by omega)
      rw [by8_get _ _ hPl] at hbc
      have hbf := Hbfree.out (Lf + 4 + m)
      have hx256 : X.getD (Lf + 4 + m) 0 < 256 := by
        simp only [List.getD, List.getElem?_eq_getElem hPl, Option.getD_some]
        exact Hbyte.out _ (List.getElem_mem _)
      generalize X.getD (Lf + 4 + m) 0 = x at *
      have hxor := u8_xor_nat x by_ hx256 hb0
      have hy : x ^^^ by_ < 256 := Nat.xor_lt_two_pow (n := 8) hx256 hb0
      have hset : (by8 X).set (Lf + 4 + m) (.int .u8 ((x ^^^ by_ : Nat) : Int)) = by8 (X.set (Lf + 4 + m) (x ^^^ by_)) := by unfold by8; rw [List.map_set]
      have hby3 : ∀ z ∈ X.set (Lf + 4 + m) (x ^^^ by_), z < 256 := by
        intro z hz
        rcases List.mem_or_eq_of_mem_set hz with h | h
        · exact Hbyte.out z h
        · omega
      have hst := fun n => ((own_kept Hob.out ((Touch.refl w2 (fun _ => False)).drewN n) (fun _ _ h => h)).stored (Lf + 4 + m) (.int .u8 ((x ^^^ by_ : Nat) : Int))).1
      rw [hset] at hst
      have htt : ∀ n (u : Value), Touch w2 ((w2.drewN n).setCell ⟨gb, Lf + 4 + m, none⟩ u) (fun i => i = gb) := fun n u => Touch.store (S := fun i => i = gb) ((Touch.refl _ _).drewN n) (p := ⟨gb, Lf + 4 + m, none⟩) (.inl rfl) u
      have Htt := Lib.hid htt
      have hGl := SM.units_length (X.set (Lf + 4 + m) (x ^^^ by_))
      have hGb := SM.units_byte hby3
      rw [List.length_set] at hGl
      have Hst := Lib.hid hst; have Hby3 := Lib.hid hby3; have HGb := Lib.hid hGb
      have hsplit := fun (n : Nat) => split_c _ _ _ (Sl.own (hst n)) (by rw [List.length_set]; omega) hby3
      have Hsplit := Lib.hid hsplit
      have hf2 := Hfound.out m (x ^^^ by_) q Hzk.out (by omega) Hall0.out
      have Hf2 := Lib.hid hf2
      generalize hY : x ^^^ by_ = y at *
      generalize SM.units (X.set (Lf + 4 + m) y) = G at *
      generalize SM.bads (X.set (Lf + 4 + m) y) = D at *
      clear hst hby3 hset hx256 hf2 hGb htt hsplit
      go_wp2_with fail
      go_quiet (fail)
      go_wp2_with fail
      refine (Hsplit.out _).mono ?_
      rintro e w4 ⟨vu, vd, rfl, hof, hod, ht4⟩
      have htw := (Htt.out _ _).trans ht4 (fun i hi => hi.elim)
      have hs4 := htw.size
      have how4 := Hstab.out w4 _ htw (fun i hi e => by omega) (fun i hi e => Hvb.out i hi e)
      have T4 : Touch w w4 (fun _ => False) := Ht2.out.trans htw (fun i hi => .inr (by omega))
      obtain ⟨Au, cu, rfl⟩ := hof.slice
      have Hof := Lib.hid hof; have How4 := Lib.hid how4; have HT4 := Lib.hid T4
      clear hof hod ht4 htw how4 T4 hbc hbf p2 p3 p2'
      generalize hgn : G.length = gn at *
      have Hgn := Lib.hid hgn
      have hgn5 : gn ≤ 5000 := by omega
      clear hgn
      go_wp2_with fail
      clear hkn hmn hkl hz hz2 hyz hyz2 hsub hmod hmod2 hle2 hxor hY hy hLf hLe hpos hm hPl hlf hol hXp hfl hGl hle hb0 hb1 hm0 hgb' hg' hgb2 hcb1 hcb2 hbb
      go_loopw [16] (fun i wr => ∃ j : Nat, j ≤ us.length ∧ i = .int .i64 (j : Int) ∧ Touch w4 wr (fun _ => False)) (fun i _ => us.length - (intOf i).toNat)
      case atStart => exact ⟨0, Nat.zero_le _, rfl, Touch.refl _ _⟩
      case round =>
        obtain ⟨i, hi, rfl, hT⟩ := hrel
        have HT := Lib.hid hT
        clear hT
        by_cases hlt : i < us.length
        · by_cases hik : i = k
          · subst hik
            go_wp2_with fail
            go_roundw
            case rel => exact ⟨i + 1, by omega, by go_num, HT.out⟩
            case measure => simp [intOf]; omega
          · have hikb : ((i : Int) == (k : Int)) = false := beq_eq_false_iff_ne.2 (by omega)
            obtain ⟨hw, hwi⟩ : ∃ hw, (SM.want 0 zs)[i]? = some hw := ⟨_, List.getElem?_eq_getElem (by rw [Hwl.out]; exact hlt)⟩
            have hmemG := Hf2.out i hik _ hwi
            have hbw : ∀ z ∈ hw.p, z < 256 := by
              obtain ⟨z, hz, e⟩ := Hwmem.out _ (List.mem_of_getElem? hwi)
              rw [e]
              exact Hpb.out z hz
            obtain ⟨jf, hjf1, hjf2⟩ := List.getElem_of_mem hmemG
            have hjf : G[jf]? = some hw := by rw [List.getElem?_eq_getElem hjf1, hjf2]
            have Hjf := Lib.hid hjf
            have Hwi := Lib.hid hwi; have Hbw := Lib.hid hbw
            have hjl : jf < gn := by rw [← Hgn.out]; exact hjf1
            clear hwi hmemG hbw hjf1 hjf2 hjf
            go_wp2_with fail
            go_loopw [17, 18] (fun fv q wr => ∃ (j : Nat) (bf : Bool), j ≤ gn ∧ q = .int .i64 (j : Int) ∧ fv = .bool bf ∧ (jf < j → bf = true) ∧ Touch w4 wr (fun _ => False)) (fun _ q _ => gn - (intOf q).toNat)
            case atStart => exact ⟨0, false, Nat.zero_le _, rfl, rfl, fun h => by omega, HT.out⟩
            case round =>
              obtain ⟨j, bf, hj, rfl, rfl, hbf, hT2⟩ := hrel
              have HT2 := Lib.hid hT2; have Hbf := Lib.hid hbf
              clear hbf
              by_cases hjlt : j < gn
              · cases bf with
                | true =>
                  clear hT2
                  go_wp2_with fail
                  go_quiet (fail)
                  go_wp2_with fail
                  go_roundw
                  case rel => exact ⟨j + 1, true, by omega, by go_num, rfl, fun _ => rfl, HT2.out.drewN _⟩
                  case measure => simp [intOf]; omega
                | false =>
                  obtain ⟨g1, hh1, u1, hg1, -, hgb1, hg1l, hu1, q0, q1, q2, q3, q4, hpay1⟩ := (Hof.out.to0 hT2).at_ j (by rw [Hgn.out]; exact hjlt)
                  obtain ⟨g2, hh2, u2, hg2, -, hgb2', hg2l, hu2, p0, p1, p2, p3, p4, hpay2⟩ := (How4.out.to0 hT2).at_ i (by rw [Hwl.out]; exact hlt)
                  injection hg2 with hg2
                  injection hg2 with hg2
                  subst hg2 hg1
                  rw [Hwi.out] at hu2
                  injection hu2 with hu2
                  subst hu2
                  have hb1' := HGb.out _ (List.mem_of_getElem? hu1)
                  have hsame := fun (d : Nat) (os : Array Obj) => Calls.regrown_of ((same_d (grow (redrawn wr d) os) hh1 hw u1 u2 (hpay1.1.to (touch_of (below_regrown wr d os)) (fun _ _ _ h => h)) (hpay2.1.to (touch_of (below_regrown wr d os)) (fun _ _ _ h => h)) hb1' Hbw.out).mono (fun _ _ ⟨a, b⟩ => ⟨a, below_of b⟩))
                  have hself : jf < j + 1 → SM.hitB hh1 hw = true := by
                    intro hj1
                    by_cases hjj : jf < j
                    · have := Hbf.out hjj; cases this
                    · obtain rfl : jf = j := by omega
                      rw [Hjf.out] at hu1
                      injection hu1 with hu1
                      subst hu1
                      exact SM.hitB_self _
                  unfold hitV at hsame
                  obtain ⟨A3, c3, rfl⟩ := hpay1.1.len
                  obtain ⟨A4, c4, rfl⟩ := hpay2.1.len
                  have r0 := cell_regrown q0
                  have r1 := cell_regrown q1
                  have r2 := cell_regrown q2
                  have r3 := cell_regrown q3
                  have r4 := cell_regrown q4
                  have s0 := cell_regrown p0
                  have s1 := cell_regrown p1
                  have s2 := cell_regrown p2
                  have s3 := cell_regrown p3
                  have s4 := cell_regrown p4
                  have Hsame := Lib.hid hsame; have Hself := Lib.hid hself
                  generalize hbv : SM.hitB hh1 hw = bv at *
                  clear q0 q1 q2 q3 q4 p0 p1 p2 p3 p4 hpay1 hpay2 hsame hself hu1 hT2 hb1' hbv
                  go_wp2_with fail
                  refine wp_region_quiet_below (by kernel_rfl) (by kernel_rfl) ?_
                  repeat (quiet_step (exact Hsame.out _ _))
                  refine wpQuiet_nil ?_
                  intro _ hw'
                  obtain ⟨⟨dq, osq⟩, hw''⟩ := hw'
                  have hbq := touch_of (below_regrown wr dq osq)
                  rw [← hw''] at hbq
                  have Hbq := Lib.hid hbq
                  clear hbq hw'' r0 r1 r2 r3 r4 s0 s1 s2 s3 s4
                  go_wp2_with fail
                  go_roundw
                  case rel => exact ⟨j + 1, bv, by omega, by go_num, rfl, Hself.out, HT2.out.trans Hbq.out (fun i hi => .inl hi)⟩
                  case measure => simp [intOf]; omega
              · have hbt : bf = true := Hbf.out (by omega)
                subst hbt
                clear hT2
                go_wp2_with fail
                go_roundw
                case rel => exact ⟨i + 1, by omega, by go_num, HT2.out⟩
                case measure => simp [intOf]; omega
        · go_wp2_with fail
          refine (awake_c _).mono ?_
          rintro e w8 ⟨rfl, ht8⟩
          have Ht8 := Lib.hid ht8
          clear ht8
          go_wp2_with fail
          go_ret
          exact ⟨rfl, (HT4.out.trans HT.out (fun i hi => .inl hi)).trans Ht8.out (fun i hi => .inl hi)⟩

theorem lawDamage_c (w : World) (vl : Value) (k at_ by_ : Int) (us : List (Int × List Nat)) (h : Us w w.heap.size vl us) (hk : -9223372036854775808 ≤ k ∧ k ≤ 9223372036854775807) (ha : -9223372036854775808 ≤ at_ ∧ at_ ≤ 9223372036854775807) (hb : 0 ≤ by_ ∧ by_ ≤ 255) :
    Calls Tryd.prog 6 #[vl, .int .i64 k, .int .i64 at_, .int .u8 by_] w fun e w' => e = .returned (.bool true) ∧ Touch w w' (fun _ => False) := by
  obtain ⟨yn, rfl⟩ : ∃ n : Nat, by_ = (n : Int) := ⟨by_.toNat, by omega⟩
  by_cases hbad : us.length = 0 ∨ k < 0 ∨ (us.length : Int) ≤ k ∨ at_ < 0 ∨ yn = 0
  · exact damage_none w vl us h k at_ yn hk ha (by omega) hbad
  · obtain ⟨kn, rfl⟩ : ∃ n : Nat, k = (n : Int) := ⟨k.toNat, by omega⟩
    obtain ⟨mn, rfl⟩ : ∃ n : Nat, at_ = (n : Int) := ⟨at_.toNat, by omega⟩
    exact damage_some w vl us h kn mn yn (by omega) (by omega) (by omega) (by omega)
end Go.Proofs.YtpkjogjdacogeaaDoor
