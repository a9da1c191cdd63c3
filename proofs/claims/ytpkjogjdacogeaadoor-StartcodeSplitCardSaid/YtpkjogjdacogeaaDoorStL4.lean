/- The law of Split. -/
import Derived.Test.YtpkjogjdacogeaaDoorStT
import Derived.Deep.QuietTactic
namespace Go.Proofs.YtpkjogjdacogeaaDoor
open Go.RowKit Go.Sort
set_option linter.unusedVariables false
set_option linter.unusedSimpArgs false

theorem DRow.at_ {w : World} {base n c : Nat} {T : TypeId} {A : Option Addr} {ds : List (Nat × Nat)} (h : DRow w base T (.slice A n c) ds) (k : Nat) (hk : k < ds.length) :
    ∃ g d, A = some ⟨g, 0, none⟩ ∧ ds[k]? = some d ∧ w.cell? ⟨g, k * 2, none⟩ = some (.int .i64 (d.1 : Int)) ∧ w.cell? ⟨g, k * 2 + 1, none⟩ = some (.int .i64 (d.2 : Int)) := by
  have hq : ds[k]? = some ds[k] := List.getElem?_eq_getElem hk
  obtain ⟨g, cap, hv, hb, hg, _, _, hcell, _⟩ := own_some h (by omega)
  injection hv with hv
  obtain ⟨c0, c1⟩ := cells2_get ds k _ hq
  exact ⟨g, ds[k], hv, hq, by rw [hcell (k * 2) (by omega)]; exact c0, by rw [hcell (k * 2 + 1) (by omega)]; exact c1⟩

set_option maxHeartbeats 1600000 in
theorem lawSplit_c (w : World) (vb : Value) (b : List Nat) (h : Sl w vb b) (hb : ∀ x ∈ b, x < 256) :
    Calls Tryd.prog 3 #[vb] w fun e w' => e = .returned (.bool true) ∧ Touch w w' (fun _ => False) := by
  have H := Lib.hid h; have Hb := Lib.hid hb
  obtain ⟨A, c, rfl⟩ := h.len
  clear h hb
  by_cases hl : 2000 < b.length
  · go_enter Tryd.func3, Tryd.ntmps3
    go_wp2_with fail
    go_ret
    exact ⟨rfl, Touch.refl _ _⟩
  have Hs := Lib.hid (split_c w _ b H.out (by omega) Hb.out)
  go_enter Tryd.func3, Tryd.ntmps3
  go_wp2_with fail
  refine Hs.out.mono ?_
  rintro e w1 ⟨vu, vd, rfl, hu1, hd1, ht1⟩
  have hr := rsplit_c w1 _ b (H.out.to ht1 (fun _ _ _ h => h)) (by omega) Hb.out
  have Hr := Lib.hid hr; have Hu1 := Lib.hid hu1; have Hd1 := Lib.hid hd1; have Ht1 := Lib.hid ht1
  obtain ⟨Au, cu, rfl⟩ := hu1.slice
  obtain ⟨Ad, cd, rfl⟩ := own_slice hd1
  clear hr hu1 hd1 ht1
  go_wp2_with fail
  refine Hr.out.mono ?_
  rintro e w2 ⟨vm, vx, rfl, hm2, hx2, ht2⟩
  have hu2 := Hu1.out.to0 ht2
  have hd2 := Hd1.out.to ht2 (fun _ _ h => h)
  obtain ⟨Am, cm, rfl⟩ := hm2.slice
  obtain ⟨Ax, cx, rfl⟩ := own_slice hx2
  have hul : (SM.units b).length ≤ 2000 := by have := SM.units_length b; omega
  have hdl : (SM.bads b).length ≤ 1000000 := by
    have h1 := SM.items_length (b.drop (SM.nxL b)).length (b.drop (SM.nxL b)) (SM.nxL b)
    have h2 := List.length_filterMap_le SM.defOf (SM.items (b.drop (SM.nxL b)).length (b.drop (SM.nxL b)) (SM.nxL b))
    have h3 : (SM.bads b).length ≤ 1 + ((SM.items (b.drop (SM.nxL b)).length (b.drop (SM.nxL b)) (SM.nxL b)).filterMap SM.defOf).length := by
      unfold SM.bads SM.defs SM.its
      rw [List.length_append]
      split <;> simp <;> omega
    have h4 : (b.drop (SM.nxL b)).length ≤ b.length := by rw [List.length_drop]; omega
    omega
  have Hm := Lib.hid hm2; have Hx := Lib.hid hx2; have Hu := Lib.hid hu2; have Hd := Lib.hid hd2; have Ht := Lib.hid (Ht1.out.trans ht2 (fun i hi => .inl hi))
  generalize SM.units b = U at *
  generalize SM.bads b = D at *
  generalize hn : U.length = n at *
  generalize hdn : D.length = dn at *
  have Hn := Lib.hid hn; have Hdn := Lib.hid hdn
  clear hm2 hx2 ht2 hu2 hd2 hn hdn hl
  go_wp2_with fail
  go_loopw [7] (fun i wr => ∃ k : Nat, k ≤ n ∧ i = .int .i64 (k : Int) ∧ Touch w2 wr (fun _ => False)) (fun i _ => n - (intOf i).toNat)
  case atStart => exact ⟨0, Nat.zero_le _, rfl, Touch.refl _ _⟩
  case round =>
    obtain ⟨k, hk, rfl, hT⟩ := hrel
    have HT := Lib.hid hT
    have hsr := hT.size
    by_cases hlt : k < n
    · obtain ⟨g, hh, u, rfl, -, hgb, hg, hu, q0, q1, q2, q3, q4, hpay⟩ := (Hu.out.to0 hT).at_ k (by rw [Hn.out]; exact hlt)
      obtain ⟨g', hh', u', rfl, -, hgb', hg', hu', p0, p1, p2, p3, p4, hpay'⟩ := (Hm.out.to0 hT).at_ k (by rw [Hn.out]; exact hlt)
      rw [hu] at hu'
      injection hu' with hu'
      subst hu'
      have hsame := same_eq (w := wr) (Nat.zero_le _) (Nat.zero_le _) hh u u' hpay.1 hpay'.1
      obtain ⟨A3, c3, rfl⟩ := hpay.1.len
      obtain ⟨A4, c4, rfl⟩ := hpay'.1.len
      have r0 := cell_regrown q0
      have r1 := cell_regrown q1
      have r2 := cell_regrown q2
      have r3 := cell_regrown q3
      have r4 := cell_regrown q4
      have s0 := cell_regrown p0
      have s1 := cell_regrown p1
      have s2 := cell_regrown p2
      have s3 := cell_regrown p3
      have s4 := cell_regrown p4
      have Hsame := Lib.hid hsame
      clear q0 q1 q2 q3 q4 p0 p1 p2 p3 p4 hpay hpay' hsame hu hT
      go_wp2_with fail
      refine wp_region_quiet_below (by kernel_rfl) (by kernel_rfl) ?_
      repeat (quiet_step (exact Hsame.out _ _))
      refine wpQuiet_nil ?_
      intro _ hw'
      obtain ⟨⟨dq, osq⟩, hw''⟩ := hw'
      have hbq := touch_of (below_regrown wr dq osq)
      rw [← hw''] at hbq
      have Hbq := Lib.hid hbq
      clear hbq hw'' r0 r1 r2 r3 r4 s0 s1 s2 s3 s4
      go_wp2_with fail
      go_roundw
      case rel => exact ⟨k + 1, by omega, by go_num, HT.out.trans Hbq.out (fun i hi => .inl hi)⟩
      case measure => simp [intOf]; omega
    · clear hT
      go_wp2_with fail
      go_loopw [8] (fun i wr => ∃ j : Nat, j ≤ dn ∧ i = .int .i64 (j : Int) ∧ Touch w2 wr (fun _ => False)) (fun i _ => dn - (intOf i).toNat)
      case atStart => exact ⟨0, Nat.zero_le _, rfl, HT.out⟩
      case round =>
        obtain ⟨j, hj, rfl, hT2⟩ := hrel
        have HT2 := Lib.hid hT2
        by_cases hjl : j < dn
        · obtain ⟨g, d, rfl, hd, q0, q1⟩ := (Hd.out.to hT2 (fun _ _ h => h)).at_ j (by rw [Hdn.out]; exact hjl)
          obtain ⟨g', d', rfl, hd', p0, p1⟩ := (Hx.out.to hT2 (fun _ _ h => h)).at_ j (by rw [Hdn.out]; exact hjl)
          rw [hd] at hd'
          injection hd' with hd'
          subst hd'
          obtain ⟨d1, d2⟩ := d
          simp only at q0 q1 p0 p1
          clear hd hT2
          go_wp2_with fail
          go_quiet (fail)
          go_wp2_with fail
          go_roundw
          case rel => exact ⟨j + 1, by omega, by go_num, HT2.out.drewN _⟩
          case measure => simp [intOf]; omega
        · go_wp2_with fail
          refine (awake_c _).mono ?_
          rintro e w4 ⟨rfl, ht4⟩
          have Ht4 := Lib.hid ht4
          clear ht4
          go_wp2_with fail
          go_ret
          exact ⟨rfl, (Ht.out.trans HT2.out (fun i hi => .inl hi)).trans Ht4.out (fun i hi => .inl hi)⟩
end Go.Proofs.YtpkjogjdacogeaaDoor
