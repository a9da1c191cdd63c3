/- joined. -/
import Derived.Test.YtpkjogjdacogeaaDoorStJ0
import Derived.Deep.RegionHeld3
import Derived.WalkSpells
import Derived.Deep.Cut
import Derived.Deep.DeepCutAuto
namespace Go.Proofs.YtpkjogjdacogeaaDoor
open Go.RowKit
set_option linter.unusedVariables false
set_option linter.unusedSimpArgs false

/-- a row of what is wanted; the payloads lie in the arguments -/
def WRow (w wr : World) (B : Nat) (v : Value) (hs : List SM.Hit) : Prop :=
  ∃ qs : List (SM.Hit × Value), qs.map (·.1) = hs ∧ wr.ownsRow w.heap.size 36 5 v hs.length (cells5 qs) ∧ ∀ q ∈ qs, Sl w q.2 q.1.p ∧ ∀ i, q.1.p ≠ [] → q.2.ownBlock = some i → i < B

/-- the answer of 'joined' -/
def JoinAns (w w' : World) (e : Ending) (zs : List (Nat × Int × List Nat)) : Prop :=
  ∃ vb vw, e = .returned (.tuple #[vb, vw, .bool true]) ∧ w'.ownsRow w.heap.size 5 1 vb (SM.flat zs).length (by8 (SM.flat zs)) ∧ FRow w' w.heap.size 36 vw (SM.want 0 zs) ∧
    (∀ (wz : World) (S : Nat → Prop), Touch w' wz S → (∀ i, i < w.heap.size → ¬ S i) → (∀ i, vw.ownBlock = some i → ¬ S i) → FRow wz w.heap.size 36 vw (SM.want 0 zs)) ∧ Touch w w' (fun _ => False)

set_option maxHeartbeats 1600000 in
theorem joined_c (w : World) (B : Nat) (vl vp : Value) (us : List (Int × List Nat)) (pads : List Int) (h : Us w B vl us) (hp : Il w B vp pads) (hB : B ≤ w.heap.size) (hF : SM.Formed us) :
    Calls Tryd.prog 12 #[vl, vp] w fun e w' => JoinAns w w' e (SM.zsT us pads us.length) := by
  obtain ⟨A, c, rfl⟩ := h.len
  obtain ⟨Ap, cp, rfl⟩ := hp.len
  have H := Lib.hid h; have Hp := Lib.hid hp; have HF := Lib.hid hF
  have hus := hF.1
  clear h hp hF
  go_enter Tryd.func12, Tryd.ntmps12
  go_wp2_with fail
  go_loopw [7, 8, 9] (fun vb vw i wr => ∃ k : Nat, k ≤ us.length ∧ i = .int .i64 (k : Int) ∧ wr.ownsRow w.heap.size 5 1 vb (SM.flat (SM.zsT us pads k)).length (by8 (SM.flat (SM.zsT us pads k))) ∧ WRow w wr B vw (SM.want0 0 (SM.zsT us pads k)) ∧ Touch w wr (fun _ => False)) (fun _ _ i _ => us.length - (intOf i).toNat)
  case atStart => exact ⟨0, Nat.zero_le _, rfl, World.ownsRow_nil _ _ _ _, ⟨[], rfl, World.ownsRow_nil _ _ _ _, by simp⟩, Touch.refl _ _⟩
  case round =>
    obtain ⟨k, hk, rfl, hb, hw, hT⟩ := hrel
    have HT := Lib.hid hT
    by_cases hlt : k < us.length
    · obtain ⟨g, o, t, bs, u, rfl, hg, huk, d0, d1, hsl, hlo, hbb, ht1, ht2⟩ := H.out.at_ k hlt
      have hq : SM.Fmd (t, bs) := HF.out.2 _ (List.mem_of_getElem? huk)
      have hgd : us.getD k (0, []) = (t, bs) := by simp [List.getD, huk]
      have hfl := SM.flat_le pads HF.out.2 k hk
      have hfs := SM.flat_step us pads k
      have hws := SM.want0_step us pads k
      rw [hgd] at hfs hws
      have hpad := SM.padAt_le pads k
      have hol := SM.one_le (t, bs) hq
      have hfe : SM.fmtE t bs = 0 := (SM.fmtE_iff t bs).2 hq.2
      have hfr : SM.fmtR t bs = SM.one (t, bs) := SM.fmtR_of hfe
      have hbl : bs.length ≤ 100 := hq.1
      obtain ⟨qs, eqs, how, hpq⟩ := hw
      have hlenw : (SM.want0 0 (SM.zsT us pads k)).length = k := by rw [SM.want0_length, SM.zsT_length]
      rw [hlenw] at how
      obtain ⟨Au, cu, rfl⟩ := hsl.len
      have hpst : (∀ pn, Ap = some pn → True) ∧ (pads.length ≤ k ∨ ∃ gp op z, Ap = some ⟨gp, op, none⟩ ∧ gp < B ∧ k < pads.length ∧ w.cell? ⟨gp, op + k, none⟩ = some (.int .i64 z) ∧ -9223372036854775808 ≤ z ∧ z ≤ 9223372036854775807 ∧ SM.padAt pads k = if 0 < z then (z % 8).toNat else 0) := by
        refine ⟨fun _ _ => trivial, ?_⟩
        rcases Nat.lt_or_ge k pads.length with h1 | h1
        · obtain ⟨gp, op, z, e1, e2, e3, e4, e5, e6⟩ := Hp.out.at_ k h1
          exact .inr ⟨gp, op, z, e1, e2, h1, e4, e5, e6, by unfold SM.padAt; rw [e3]⟩
        · exact .inl h1
      have hp0 : pads.length ≤ k → SM.padAt pads k = 0 := fun h => by unfold SM.padAt; rw [List.getElem?_eq_none h]
      have hpst := hpst.2
      generalize SM.flat (SM.zsT us pads k) = X at *
      generalize SM.one (t, bs) = F at *
      generalize hpn : SM.padAt pads k = n at *
      generalize hqn : qs.length = qn at *
      have Hfs := Lib.hid hfs; have Hws := Lib.hid hws; have Heqs := Lib.hid eqs; have Hpq := Lib.hid hpq
      have Hsl := Lib.hid hsl; have Hlo := Lib.hid hlo
      have hgw : g < w.heap.size := by omega
      have hcell : ∀ wx, Touch w wx (fun _ => False) → wx.cell? ⟨g, o + k * 2, none⟩ = some (.int .i64 t) ∧ wx.cell? ⟨g, o + k * 2 + 1, none⟩ = some (.slice Au bs.length cu) := fun wx hx => ⟨(hx.cell (p := ⟨g, o + k * 2, none⟩) hgw (fun h => h)).trans d0, (hx.cell (p := ⟨g, o + k * 2 + 1, none⟩) hgw (fun h => h)).trans d1⟩
      have Hcell := Lib.hid hcell
      have hfmt : ∀ wx, Touch w wx (fun _ => False) → Calls Tryd.prog 23 #[.agg #[.int .i64 t, .slice Au bs.length cu]] wx fun e w' => Ans wx w' e F 0 := by
        intro wx hx
        have := fmt_c wx t (.slice Au bs.length cu) bs (Hsl.out.to hx (fun _ _ _ h => h)) (by omega)
        rwa [hfe, hfr] at this
      have Hfmt := Lib.hid hfmt
      have hsz0 := hT.size
      -- what is left behind the padding
      have bytes : ∀ (w1 : World) (v1 : Value), w1.ownsRow w.heap.size 5 1 v1 (X ++ List.replicate n 0).length (by8 (X ++ List.replicate n 0)) → True := fun _ _ _ => trivial
      clear hfs hws eqs hpq hsl hlo hcell hfmt bytes hfe hfr huk hgd hq hT d0 d1
      have hvw := own_slice how
      obtain ⟨Aw, cw, rfl⟩ := hvw
      have How := Lib.hid how
      rcases hpst with hpl | ⟨gp, op, z, rfl, hgp, hkl, dz, hz1, hz2, hzn⟩
      · have hn0 : n = 0 := hp0 hpl
        obtain ⟨w1, rfl⟩ : ∃ w1 : World, w1 = wr := ⟨_, rfl⟩
        obtain ⟨v1, rfl⟩ : ∃ v1 : Value, v1 = u7 := ⟨_, rfl⟩
        have hb1 : w1.ownsRow w.heap.size 5 1 v1 (X ++ List.replicate n 0).length (by8 (X ++ List.replicate n 0)) := by rw [hn0]; simpa using hb
        have hw1 := how
        have T1 := HT.out
        clear hb how hp0 hn0
        have hXn : (X ++ List.replicate n 0).length = X.length + n := by simp
        have hfs2 := Hfs.out
        generalize hY : X ++ List.replicate n 0 = Y at *
        obtain ⟨Ab, cb, rfl⟩ := own_slice hb1
        have fr : ∀ (wz : World), Touch w wz (fun _ => False) → wz.ownsRow w.heap.size 36 5 (.slice Aw k cw) k (cells5 qs) → wz.ownsRow w.heap.size 5 1 (.slice Ab Y.length cb) Y.length (by8 Y) →
            ∀ (v' : Value) (w3 : World) (y1 y2 : Int), y1 = (Y.length : Int) → y2 = ((Y.length + F.length : Nat) : Int) →
            w3.ownsRow w.heap.size 36 5 v' (k + 1) (cells5 qs ++ [.int .i64 t, .slice Au bs.length cu, .int .i64 y1, .int .i64 y2, .int .i64 0]) → Touch wz w3 (fun i => w.heap.size ≤ i ∧ (Value.slice Aw k cw).ownBlock = some i) →
            WRow w w3 B v' (SM.want0 0 (SM.zsT us pads (k + 1))) ∧ w3.ownsRow w.heap.size 5 1 (.slice Ab Y.length cb) Y.length (by8 Y) ∧ Touch w w3 (fun _ => False) := by
          intro wz hz hrow hbytes v' w3 y1 y2 e1 e2 ho ht
          subst e1 e2
          refine ⟨⟨qs ++ [(⟨t, bs, X.length + n, X.length + n + F.length, 0⟩, .slice Au bs.length cu)], ?_, ?_, ?_⟩, ?_, ?_⟩
          · rw [Hws.out, List.map_append, Heqs.out]
            rfl
          · have hl : (SM.want0 0 (SM.zsT us pads (k + 1))).length = k + 1 := by rw [SM.want0_length, SM.zsT_length]
            rw [hl, cells5_app, ← hXn]
            exact ho
          · intro q hq
            rw [List.mem_append, List.mem_singleton] at hq
            rcases hq with hq | rfl
            · exact Hpq.out q hq
            · exact ⟨Hsl.out, Hlo.out⟩
          · exact own_kept hbytes ht (fun i hi hS => rows_apart hrow hbytes (by decide) i hS.2 hi)
          · exact hz.trans ht (fun i hi => .inr hi.1)
        have Fr := Lib.hid fr
        have Hfs2 := Lib.hid hfs2
        have Hb1 := Lib.hid hb1; have Hw1 := Lib.hid hw1; have HT1 := Lib.hid T1
        have hc1 := Hcell.out w1 T1
        obtain ⟨c10, c11⟩ := hc1
        have Hf1 := Lib.hid (Hfmt.out w1 T1)
        have hs1 := T1.size
        have hYl : Y.length ≤ 5000 := by omega
        clear hb1 hw1 T1 hY fr hfs2 hXn
        go_wp2_with fail
        refine Hf1.out.mono ?_
        rintro e w2 ⟨vc, rfl, hoc, htc⟩
        have hc2 := Hcell.out w2 (HT1.out.trans htc (fun i hi => .inl hi))
        obtain ⟨c20, c21⟩ := hc2
        obtain ⟨Ac, cc, rfl⟩ := hoc.sl.len
        have Hoc := Lib.hid hoc; have Htc := Lib.hid htc
        have hs2 := htc.size
        clear hoc htc c10 c11
        go_wp2_with (at_builtin; refine wpl_row (by rfl) _ _ 27 36 (by rfl) w.heap.size 5 56 _ Tryd.infoRFound Tryd.underlying27 (by rfl) (by decide) (by decide) _ k (cells5 qs) (by rfl) (own_kept (own_kept Hw1.out Htc.out (fun _ _ h => h)) ((Touch.refl _ (fun _ => False)).alloc _) (fun _ _ h => h)) _ _ (by rfl) (news_of (Cel.made _ _ _)) (by rfl) ?a1 ?a2 ?a3 ?_)
        case a1 => intro u hu; simp at hu; rcases hu with rfl | rfl | rfl | rfl | rfl <;> rfl
        case a2 => omega
        case a3 => first | omega | (simp; omega)
        intro vw' w3 ho3 ht3
        have hfr3 := Fr.out _ ((HT1.out.trans Htc.out (fun i hi => .inl hi)).alloc _) (own_kept (own_kept Hw1.out Htc.out (fun _ _ h => h)) ((Touch.refl _ (fun _ => False)).alloc _) (fun _ _ h => h)) (own_kept (own_kept Hb1.out Htc.out (fun _ _ h => h)) ((Touch.refl _ (fun _ => False)).alloc _) (fun _ _ h => h)) vw' w3 _ _ rfl (by first | rfl | omega) ho3 ht3
        have hvc3 : Sl w3 (.slice Ac F.length cc) F := by
          have h0 := (Hoc.out.to ((Touch.refl _ (fun _ => False)).alloc _) (fun _ _ _ _ h => h)).to ht3 (fun i hi1 hi2 hi3 hS => by
            have := (Hw1.out.lt i hS.2).2
            omega)
          exact h0.sl
        have hs3 := ht3.size
        have Hfr3 := Lib.hid hfr3; have Hvc3 := Lib.hid hvc3
        clear ho3 ht3 hfr3 hvc3 c20 c21
        go_wp2_with (at_builtin; refine wpl_bytes (by rfl) _ _ (by rfl) w.heap.size _ _ Y F (by rfl) (by rfl) Hfr3.out.2.1 Hvc3.out ?e1 ?e2 ?_)
        case e1 => omega
        case e2 => have := Hfr3.out.2.2.size; omega
        intro vb' w4 ho4 ht4
        have hw4 : WRow w w4 B vw' (SM.want0 0 (SM.zsT us pads (k + 1))) := by
          obtain ⟨qs', e', o', p'⟩ := Hfr3.out.1
          exact ⟨qs', e', own_kept o' ht4 (fun i hi hS => rows_apart Hfr3.out.2.1 o' (by decide) i hS.2 hi), p'⟩
        have ht5 : Touch w w4 (fun _ => False) := Hfr3.out.2.2.trans ht4 (fun i hi => .inr hi.1)
        have ho4 : w4.ownsRow w.heap.size 5 1 vb' (SM.flat (SM.zsT us pads (k + 1))).length (by8 (SM.flat (SM.zsT us pads (k + 1)))) := by
          rw [Hfs2.out]
          first | exact ho4 | (rw [List.length_append]; exact ho4)
        have Ho4 := Lib.hid ho4; have Hw4 := Lib.hid hw4; have Ht5 := Lib.hid ht5
        clear ho4 ht4 hw4 ht5
        go_wp2_with fail
        go_roundw
        case rel => exact ⟨k + 1, by omega, by go_num, Ho4.out, Hw4.out, Ht5.out⟩
        case measure => simp [intOf]; omega
      · have dz1 : wr.cell? ⟨gp, op + k, none⟩ = some (.int .i64 z) := (HT.out.cell (p := ⟨gp, op + k, none⟩) (by show gp < w.heap.size; omega) (fun h => h)).trans dz
        by_cases hz0 : 0 < z
        · rw [if_pos hz0] at hzn
          have hmod : z % 8 = (n : Int) := by omega
          have Hmod := Lib.hid hmod
          obtain ⟨Ab0, cb0, rfl⟩ := own_slice hb
          have Hb := Lib.hid hb
          clear hb how dz hzn hmod hp0
          go_wp2_with (at_builtin; refine wpl_zeros (by rfl) _ _ (by rfl) w.heap.size _ X n (by rfl) (by exact congrArg (Value.int .i64) Hmod.out) Hb.out (by omega) (by omega) (by omega) ?_)
          intro v1 w1 hb1 ht1
          have hb1 : w1.ownsRow w.heap.size 5 1 v1 (X ++ List.replicate n 0).length (by8 (X ++ List.replicate n 0)) := by
            have hh : (X ++ List.replicate n 0).length = X.length + n := by simp
            first | exact hb1 | (rw [hh]; exact hb1)
          have hw1 : w1.ownsRow w.heap.size 36 5 (.slice Aw k cw) k (cells5 qs) := own_kept How.out ht1 (fun i hi hS => rows_apart Hb.out How.out (by decide) i hS.2 hi)
          have T1 : Touch w w1 (fun _ => False) := HT.out.trans ht1 (fun i hi => .inr hi.1)
          clear ht1 dz1
          have hXn : (X ++ List.replicate n 0).length = X.length + n := by simp
          have hfs2 := Hfs.out
          generalize hY : X ++ List.replicate n 0 = Y at *
          obtain ⟨Ab, cb, rfl⟩ := own_slice hb1
          have fr : ∀ (wz : World), Touch w wz (fun _ => False) → wz.ownsRow w.heap.size 36 5 (.slice Aw k cw) k (cells5 qs) → wz.ownsRow w.heap.size 5 1 (.slice Ab Y.length cb) Y.length (by8 Y) →
              ∀ (v' : Value) (w3 : World) (y1 y2 : Int), y1 = (Y.length : Int) → y2 = ((Y.length + F.length : Nat) : Int) →
              w3.ownsRow w.heap.size 36 5 v' (k + 1) (cells5 qs ++ [.int .i64 t, .slice Au bs.length cu, .int .i64 y1, .int .i64 y2, .int .i64 0]) → Touch wz w3 (fun i => w.heap.size ≤ i ∧ (Value.slice Aw k cw).ownBlock = some i) →
              WRow w w3 B v' (SM.want0 0 (SM.zsT us pads (k + 1))) ∧ w3.ownsRow w.heap.size 5 1 (.slice Ab Y.length cb) Y.length (by8 Y) ∧ Touch w w3 (fun _ => False) := by
            intro wz hz hrow hbytes v' w3 y1 y2 e1 e2 ho ht
            subst e1 e2
            refine ⟨⟨qs ++ [(⟨t, bs, X.length + n, X.length + n + F.length, 0⟩, .slice Au bs.length cu)], ?_, ?_, ?_⟩, ?_, ?_⟩
            · rw [Hws.out, List.map_append, Heqs.out]
              rfl
            · have hl : (SM.want0 0 (SM.zsT us pads (k + 1))).length = k + 1 := by rw [SM.want0_length, SM.zsT_length]
              rw [hl, cells5_app, ← hXn]
              exact ho
            · intro q hq
              rw [List.mem_append, List.mem_singleton] at hq
              rcases hq with hq | rfl
              · exact Hpq.out q hq
              · exact ⟨Hsl.out, Hlo.out⟩
            · exact own_kept hbytes ht (fun i hi hS => rows_apart hrow hbytes (by decide) i hS.2 hi)
            · exact hz.trans ht (fun i hi => .inr hi.1)
          have Fr := Lib.hid fr
          have Hfs2 := Lib.hid hfs2
          have Hb1 := Lib.hid hb1; have Hw1 := Lib.hid hw1; have HT1 := Lib.hid T1
          have hc1 := Hcell.out w1 T1
          obtain ⟨c10, c11⟩ := hc1
          have Hf1 := Lib.hid (Hfmt.out w1 T1)
          have hs1 := T1.size
          have hYl : Y.length ≤ 5000 := by omega
          clear hb1 hw1 T1 hY fr hfs2 hXn
          go_wp2_with fail
          refine Hf1.out.mono ?_
          rintro e w2 ⟨vc, rfl, hoc, htc⟩
          have hc2 := Hcell.out w2 (HT1.out.trans htc (fun i hi => .inl hi))
          obtain ⟨c20, c21⟩ := hc2
          obtain ⟨Ac, cc, rfl⟩ := hoc.sl.len
          have Hoc := Lib.hid hoc; have Htc := Lib.hid htc
          have hs2 := htc.size
          clear hoc htc c10 c11
          go_wp2_with (at_builtin; refine wpl_row (by rfl) _ _ 27 36 (by rfl) w.heap.size 5 56 _ Tryd.infoRFound Tryd.underlying27 (by rfl) (by decide) (by decide) _ k (cells5 qs) (by rfl) (own_kept (own_kept Hw1.out Htc.out (fun _ _ h => h)) ((Touch.refl _ (fun _ => False)).alloc _) (fun _ _ h => h)) _ _ (by rfl) (news_of (Cel.made _ _ _)) (by rfl) ?a1 ?a2 ?a3 ?_)
          case a1 => intro u hu; simp at hu; rcases hu with rfl | rfl | rfl | rfl | rfl <;> rfl
          case a2 => omega
          case a3 => first | omega | (simp; omega)
          intro vw' w3 ho3 ht3
          have hfr3 := Fr.out _ ((HT1.out.trans Htc.out (fun i hi => .inl hi)).alloc _) (own_kept (own_kept Hw1.out Htc.out (fun _ _ h => h)) ((Touch.refl _ (fun _ => False)).alloc _) (fun _ _ h => h)) (own_kept (own_kept Hb1.out Htc.out (fun _ _ h => h)) ((Touch.refl _ (fun _ => False)).alloc _) (fun _ _ h => h)) vw' w3 _ _ rfl (by first | rfl | omega) ho3 ht3
          have hvc3 : Sl w3 (.slice Ac F.length cc) F := by
            have h0 := (Hoc.out.to ((Touch.refl _ (fun _ => False)).alloc _) (fun _ _ _ _ h => h)).to ht3 (fun i hi1 hi2 hi3 hS => by
              have := (Hw1.out.lt i hS.2).2
              omega)
            exact h0.sl
          have hs3 := ht3.size
          have Hfr3 := Lib.hid hfr3; have Hvc3 := Lib.hid hvc3
          clear ho3 ht3 hfr3 hvc3 c20 c21
          go_wp2_with (at_builtin; refine wpl_bytes (by rfl) _ _ (by rfl) w.heap.size _ _ Y F (by rfl) (by rfl) Hfr3.out.2.1 Hvc3.out ?e1 ?e2 ?_)
          case e1 => omega
          case e2 => have := Hfr3.out.2.2.size; omega
          intro vb' w4 ho4 ht4
          have hw4 : WRow w w4 B vw' (SM.want0 0 (SM.zsT us pads (k + 1))) := by
            obtain ⟨qs', e', o', p'⟩ := Hfr3.out.1
            exact ⟨qs', e', own_kept o' ht4 (fun i hi hS => rows_apart Hfr3.out.2.1 o' (by decide) i hS.2 hi), p'⟩
          have ht5 : Touch w w4 (fun _ => False) := Hfr3.out.2.2.trans ht4 (fun i hi => .inr hi.1)
          have ho4 : w4.ownsRow w.heap.size 5 1 vb' (SM.flat (SM.zsT us pads (k + 1))).length (by8 (SM.flat (SM.zsT us pads (k + 1)))) := by
            rw [Hfs2.out]
            first | exact ho4 | (rw [List.length_append]; exact ho4)
          have Ho4 := Lib.hid ho4; have Hw4 := Lib.hid hw4; have Ht5 := Lib.hid ht5
          clear ho4 ht4 hw4 ht5
          go_wp2_with fail
          go_roundw
          case rel => exact ⟨k + 1, by omega, by go_num, Ho4.out, Hw4.out, Ht5.out⟩
          case measure => simp [intOf]; omega
        · rw [if_neg hz0] at hzn
          have hn0 : n = 0 := hzn
          obtain ⟨w1, rfl⟩ : ∃ w1 : World, w1 = wr := ⟨_, rfl⟩
          obtain ⟨v1, rfl⟩ : ∃ v1 : Value, v1 = u7 := ⟨_, rfl⟩
          have hb1 : w1.ownsRow w.heap.size 5 1 v1 (X ++ List.replicate n 0).length (by8 (X ++ List.replicate n 0)) := by rw [hn0]; simpa using hb
          have hw1 := how
          have T1 := HT.out
          clear hb how hp0 hn0 hzn
          have hXn : (X ++ List.replicate n 0).length = X.length + n := by simp
          have hfs2 := Hfs.out
          generalize hY : X ++ List.replicate n 0 = Y at *
          obtain ⟨Ab, cb, rfl⟩ := own_slice hb1
          have fr : ∀ (wz : World), Touch w wz (fun _ => False) → wz.ownsRow w.heap.size 36 5 (.slice Aw k cw) k (cells5 qs) → wz.ownsRow w.heap.size 5 1 (.slice Ab Y.length cb) Y.length (by8 Y) →
              ∀ (v' : Value) (w3 : World) (y1 y2 : Int), y1 = (Y.length : Int) → y2 = ((Y.length + F.length : Nat) : Int) →
              w3.ownsRow w.heap.size 36 5 v' (k + 1) (cells5 qs ++ [.int .i64 t, .slice Au bs.length cu, .int .i64 y1, .int .i64 y2, .int .i64 0]) → Touch wz w3 (fun i => w.heap.size ≤ i ∧ (Value.slice Aw k cw).ownBlock = some i) →
              WRow w w3 B v' (SM.want0 0 (SM.zsT us pads (k + 1))) ∧ w3.ownsRow w.heap.size 5 1 (.slice Ab Y.length cb) Y.length (by8 Y) ∧ Touch w w3 (fun _ => False) := by
            intro wz hz hrow hbytes v' w3 y1 y2 e1 e2 ho ht
            subst e1 e2
            refine ⟨⟨qs ++ [(⟨t, bs, X.length + n, X.length + n + F.length, 0⟩, .slice Au bs.length cu)], ?_, ?_, ?_⟩, ?_, ?_⟩
            · rw [Hws.out, List.map_append, Heqs.out]
              rfl
            · have hl : (SM.want0 0 (SM.zsT us pads (k + 1))).length = k + 1 := by rw [SM.want0_length, SM.zsT_length]
              rw [hl, cells5_app, ← hXn]
              exact ho
            · intro q hq
              rw [List.mem_append, List.mem_singleton] at hq
              rcases hq with hq | rfl
              · exact Hpq.out q hq
              · exact ⟨Hsl.out, Hlo.out⟩
            · exact own_kept hbytes ht (fun i hi hS => rows_apart hrow hbytes (by decide) i hS.2 hi)
            · exact hz.trans ht (fun i hi => .inr hi.1)
          have Fr := Lib.hid fr
          have Hfs2 := Lib.hid hfs2
          have Hb1 := Lib.hid hb1; have Hw1 := Lib.hid hw1; have HT1 := Lib.hid T1
          have hc1 := Hcell.out w1 T1
          obtain ⟨c10, c11⟩ := hc1
          have Hf1 := Lib.hid (Hfmt.out w1 T1)
          have hs1 := T1.size
          have hYl : Y.length ≤ 5000 := by omega
          clear hb1 hw1 T1 hY fr hfs2 hXn
          go_wp2_with fail
          refine Hf1.out.mono ?_
          rintro e w2 ⟨vc, rfl, hoc, htc⟩
          have hc2 := Hcell.out w2 (HT1.out.trans htc (fun i hi => .inl hi))
          obtain ⟨c20, c21⟩ := hc2
          obtain ⟨Ac, cc, rfl⟩ := hoc.sl.len
          have Hoc := Lib.hid hoc; have Htc := Lib.hid htc
          have hs2 := htc.size
          clear hoc htc c10 c11
          go_wp2_with (at_builtin; refine wpl_row (by rfl) _ _ 27 36 (by rfl) w.heap.size 5 56 _ Tryd.infoRFound Tryd.underlying27 (by rfl) (by decide) (by decide) _ k (cells5 qs) (by rfl) (own_kept (own_kept Hw1.out Htc.out (fun _ _ h => h)) ((Touch.refl _ (fun _ => False)).alloc _) (fun _ _ h => h)) _ _ (by rfl) (news_of (Cel.made _ _ _)) (by rfl) ?a1 ?a2 ?a3 ?_)
          case a1 => intro u hu; simp at hu; rcases hu with rfl | rfl | rfl | rfl | rfl <;> rfl
          case a2 => omega
          case a3 => first | omega | (simp; omega)
          intro vw' w3 ho3 ht3
          have hfr3 := Fr.out _ ((HT1.out.trans Htc.out (fun i hi => .inl hi)).alloc _) (own_kept (own_kept Hw1.out Htc.out (fun _ _ h => h)) ((Touch.refl _ (fun _ => False)).alloc _) (fun _ _ h => h)) (own_kept (own_kept Hb1.out Htc.out (fun _ _ h => h)) ((Touch.refl _ (fun _ => False)).alloc _) (fun _ _ h => h)) vw' w3 _ _ rfl (by first | rfl | omega) ho3 ht3
          have hvc3 : Sl w3 (.slice Ac F.length cc) F := by
            have h0 := (Hoc.out.to ((Touch.refl _ (fun _ => False)).alloc _) (fun _ _ _ _ h => h)).to ht3 (fun i hi1 hi2 hi3 hS => by
              have := (Hw1.out.lt i hS.2).2
              omega)
            exact h0.sl
          have hs3 := ht3.size
          have Hfr3 := Lib.hid hfr3; have Hvc3 := Lib.hid hvc3
          clear ho3 ht3 hfr3 hvc3 c20 c21
          go_wp2_with (at_builtin; refine wpl_bytes (by rfl) _ _ (by rfl) w.heap.size _ _ Y F (by rfl) (by rfl) Hfr3.out.2.1 Hvc3.out ?e1 ?e2 ?_)
          case e1 => omega
          case e2 => have := Hfr3.out.2.2.size; omega
          intro vb' w4 ho4 ht4
          have hw4 : WRow w w4 B vw' (SM.want0 0 (SM.zsT us pads (k + 1))) := by
            obtain ⟨qs', e', o', p'⟩ := Hfr3.out.1
            exact ⟨qs', e', own_kept o' ht4 (fun i hi hS => rows_apart Hfr3.out.2.1 o' (by decide) i hS.2 hi), p'⟩
          have ht5 : Touch w w4 (fun _ => False) := Hfr3.out.2.2.trans ht4 (fun i hi => .inr hi.1)
          have ho4 : w4.ownsRow w.heap.size 5 1 vb' (SM.flat (SM.zsT us pads (k + 1))).length (by8 (SM.flat (SM.zsT us pads (k + 1)))) := by
            rw [Hfs2.out]
            first | exact ho4 | (rw [List.length_append]; exact ho4)
          have Ho4 := Lib.hid ho4; have Hw4 := Lib.hid hw4; have Ht5 := Lib.hid ht5
          clear ho4 ht4 hw4 ht5
          go_wp2_with fail
          go_roundw
          case rel => exact ⟨k + 1, by omega, by go_num, Ho4.out, Hw4.out, Ht5.out⟩
          case measure => simp [intOf]; omega
    · obtain rfl : k = us.length := by omega
      have hlenw : (SM.want0 0 (SM.zsT us pads us.length)).length = us.length := by rw [SM.want0_length, SM.zsT_length]
      have hfl := SM.flat_le pads HF.out.2 us.length (Nat.le_refl _)
      have hwf := SM.want_fix (SM.zsT us pads us.length)
      obtain ⟨qs, eqs, how, hpq⟩ := hw
      rw [hlenw] at how
      have hql : qs.length = us.length := by rw [← hlenw, ← eqs]; simp
      have hwl : (SM.want 0 (SM.zsT us pads us.length)).length = us.length := by rw [SM.want_length, SM.zsT_length]
      generalize SM.want0 0 (SM.zsT us pads us.length) = hs at *
      generalize hX : SM.flat (SM.zsT us pads us.length) = X at *
      obtain ⟨Aw, cw, rfl⟩ := own_slice how
      obtain ⟨Ab, cb, rfl⟩ := own_slice hb
      have Hwf := Lib.hid hwf; have Hpq := Lib.hid hpq; have Heqs := Lib.hid eqs; have Hql := Lib.hid hql
      have Hb := Lib.hid hb; have How := Lib.hid how; have Hwl := Lib.hid hwl; have HX := Lib.hid hX
      clear hlenw hwf hpq eqs hql hb how hT hwl hX
      go_wp2_with fail
      go_loopw [12] (fun i w5 => ∃ k : Nat, k ≤ us.length ∧ i = .int .i64 (k : Int) ∧ w5.ownsRow w.heap.size 36 5 (.slice Aw us.length cw) us.length (cells5 (mixed hs X.length qs k)) ∧ w5.ownsRow w.heap.size 5 1 (.slice Ab X.length cb) X.length (by8 X) ∧ Touch w w5 (fun _ => False)) (fun i _ => us.length - (intOf i).toNat)
      case atStart => exact ⟨0, Nat.zero_le _, rfl, by rw [mixed_zero]; exact How.out, Hb.out, HT.out⟩
      case round =>
        obtain ⟨k, hk, rfl, hw, hb, hT⟩ := hrel
        by_cases hlt : k < us.length
        · obtain ⟨gw, capw, hv, hbg, hlg, hcap, hmax, hcell, hfree⟩ := own_some hw (by omega)
          injection hv with hv _ hv2
          subst hv hv2
          have hkq : k < qs.length := by rw [Hql.out]; exact hlt
          have hq : qs[k]? = some qs[k] := List.getElem?_eq_getElem hkq
          have hmk := mixed_get hs X.length qs k k _ hq
          rw [if_neg (by omega)] at hmk
          have hc4a := hcell (k * 5 + 4) (by omega)
          rw [cells5_get _ _ _ hmk 4 (by omega)] at hc4a
          have hc4 : wr.cell? ⟨gw, k * 5 + 4, none⟩ = some (.int .i64 (qs[k].1.x : Int)) := hc4a
          clear hc4a
          have hf4 := hfree (k * 5 + 4)
          have hst := fun u => (hw.stored (k * 5 + 4) u).1
          have hset := cells5_set _ k _ (SM.fixAt hs X.length k qs[k].1, qs[k].2) (.int .i64 (((((hs[k + 1]?).map (fun (h : SM.Hit) => h.f)).getD X.length : Nat)) : Int)) hmk rfl
          rw [← mixed_succ hs X.length qs k _ hq] at hset
          have hS : ∀ u, Touch wr (wr.setCell ⟨gw, k * 5 + 4, none⟩ u) (fun i => i = gw) := fun u => Touch.store (S := fun i => i = gw) (Touch.refl _ _) (p := ⟨gw, k * 5 + 4, none⟩) (.inl rfl) u
          have hbz : ∀ (wz wy : World), wz.ownsRow w.heap.size 5 1 (.slice Ab X.length cb) X.length (by8 X) → (∀ xs, wz.ownsRow w.heap.size 36 5 (.slice (some ⟨gw, 0, none⟩) us.length cw) us.length xs → Touch wz wy (fun i => i = gw) → wy.ownsRow w.heap.size 5 1 (.slice Ab X.length cb) X.length (by8 X)) := by
            intro wz wy h1 xs h2 h3
            exact own_kept h1 h3 (fun i hi hS => rows_apart h2 h1 (by decide) i (by simp [Value.ownBlock, hS]) hi)
          have Hst := Lib.hid hst; have Hset := Lib.hid hset; have HS := Lib.hid hS; have Hbz := Lib.hid hbz; have Hb := Lib.hid hb; have Hw := Lib.hid hw; have HT5 := Lib.hid hT; have Hmk := Lib.hid hmk
          clear hst hset hS hbz hb hw hT hmk hcell hfree hq
          go_upto_region 17 with fail
          have h6 := Hst.out (.int .i64 (X.length : Int))
          have hb6 := Hbz.out _ _ Hb.out _ Hw.out (HS.out (.int .i64 (X.length : Int)))
          have hT6 : Touch w (wr.setCell ⟨gw, k * 5 + 4, none⟩ (.int .i64 (X.length : Int))) (fun _ => False) := HT5.out.trans (HS.out _) (fun i hi => .inr (by omega))
          generalize wr.setCell ⟨gw, k * 5 + 4, none⟩ (.int .i64 (X.length : Int)) = w6 at *
          have hcl : (cells5 (mixed hs X.length qs k)).length = us.length * 5 := by rw [cells5_length, mixed_length, Hql.out]
          have H6 := Lib.hid h6; have Hb6 := Lib.hid hb6; have HT6 := Lib.hid hT6
          by_cases hk1 : k + 1 < us.length
          · have hkq1 : k + 1 < qs.length := by rw [Hql.out]; exact hk1
            have hq1 : qs[k + 1]? = some qs[k + 1] := List.getElem?_eq_getElem hkq1
            have hm1 := mixed_get hs X.length qs k (k + 1) _ hq1
            rw [if_neg (by omega)] at hm1
            have c1a := h6.cellAt ((k + 1) * 5 + 2) (by omega)
            rw [List.getElem?_set_ne (by omega), cells5_get _ _ _ hm1 2 (by omega)] at c1a
            have c1 : w6.cell? ⟨gw, (k + 1) * 5 + 2, none⟩ = some (.int .i64 (qs[k + 1].1.f : Int)) := c1a
            clear c1a
            have c4 := h6.cellAt (k * 5 + 4) (by omega)
            rw [List.getElem?_set_self (by omega)] at c4
            have f4 := h6.frozenAt (k * 5 + 4)
            have hh : hs[k + 1]? = some qs[k + 1].1 := by rw [← Heqs.out, List.getElem?_map, hq1]; rfl
            have hst6 := fun u => (h6.stored (k * 5 + 4) u).1
            have hset := Hset.out
            rw [hh] at hset
            simp only [Option.map_some, Option.getD_some] at hset
            have Hset6 := Lib.hid hset; have Hst6 := Lib.hid hst6
            clear h6 hb6 hT6 hset hst6 hh hm1 hq1 hc4
            generalize qs[k + 1].1.f = fq at *
            go_wp2_with fail
            go_roundw
            case rel =>
              have ho := Hst6.out (.int .i64 (fq : Int))
              rw [List.set_set] at ho
              have hTz : Touch w6 (w6.setCell ⟨gw, k * 5 + 4, none⟩ (.int .i64 (fq : Int))) (fun i => i = gw) := Touch.store (S := fun i => i = gw) (Touch.refl _ _) (p := ⟨gw, k * 5 + 4, none⟩) (.inl rfl) _
              refine ⟨k + 1, by omega, by go_num, ?_, Hbz.out _ _ Hb6.out _ H6.out hTz, HT6.out.trans hTz (fun i hi => .inr (by omega))⟩
              rw [Hset6.out]
              exact ho
            case measure => simp [intOf]; omega
          · have hh : hs[k + 1]? = none := by rw [← Heqs.out]; exact List.getElem?_eq_none (by rw [List.length_map, Hql.out]; omega)
            have hset := Hset.out
            rw [hh] at hset
            have Hset6 := Lib.hid hset
            clear h6 hb6 hT6 hset hh hc4
            go_wp2_with fail
            go_roundw
            case rel =>
              refine ⟨k + 1, by omega, by go_num, ?_, Hb6.out, HT6.out⟩
              rw [Hset6.out]
              exact H6.out
            case measure => simp [intOf]; omega
        · obtain rfl : k = us.length := by omega
          have Hw := Lib.hid hw; have Hb5 := Lib.hid hb; have HT5 := Lib.hid hT
          clear hw hb hT
          have hwant : (mixed hs X.length qs us.length).map (·.1) = SM.want 0 (SM.zsT us pads us.length) := by
            rw [Hwf.out, ← Heqs.out]
            apply List.ext_getElem?
            intro i
            unfold mixed
            rw [List.getElem?_map, List.getElem?_mapIdx, List.getElem?_mapIdx, List.getElem?_map]
            rcases Nat.lt_or_ge i qs.length with hi | hi
            · have hqi : qs[i]? = some qs[i] := List.getElem?_eq_getElem hi
              rw [hqi]
              simp only [Option.map_some]
              rw [if_pos (by rw [← Hql.out]; exact hi)]
            · rw [List.getElem?_eq_none hi]
              rfl
          have hstab : ∀ (wz : World) (S : Nat → Prop), Touch wr wz S → (∀ i, i < w.heap.size → ¬ S i) → (∀ i, (Value.slice Aw us.length cw).ownBlock = some i → ¬ S i) → FRow wz w.heap.size 36 (.slice Aw us.length cw) (SM.want 0 (SM.zsT us pads us.length)) := by
            intro wz S hz h1 h2
            refine ⟨_, hwant, ?_, ?_⟩
            · rw [Hwl.out]
              exact own_kept Hw.out hz h2
            · intro q hq
              obtain ⟨i, hi, hqi⟩ := List.getElem_of_mem hq
              have hi2 : i < qs.length := by rwa [mixed_length] at hi
              have hg := mixed_get hs X.length qs us.length i _ (List.getElem?_eq_getElem hi2)
              rw [if_pos (by rw [← Hql.out]; exact hi2), List.getElem?_eq_getElem hi, hqi] at hg
              injection hg with hg
              subst hg
              have hp := Hpq.out _ (List.getElem_mem hi2)
              exact ⟨(hp.1.to HT5.out (fun _ _ _ h => h)).to hz (fun j hj hb => h1 j (by have := hp.2 j hj hb; omega)), fun j hj hb => .inl (by have := hp.2 j hj hb; omega)⟩
          have hfin := hstab wr (fun _ => False) (Touch.refl _ _) (fun _ _ h => h) (fun _ _ h => h)
          have hbf : wr.ownsRow w.heap.size 5 1 (.slice Ab X.length cb) (SM.flat (SM.zsT us pads us.length)).length (by8 (SM.flat (SM.zsT us pads us.length))) := by
            rw [HX.out]
            exact Hb5.out
          have Hfin := Lib.hid hfin; have Hbf := Lib.hid hbf; have Hstab := Lib.hid hstab
          clear hwant hfin hbf hstab
          go_wp2_with fail
          refine bodyPost_ret (v := .tuple #[.slice Ab X.length cb, .slice Aw us.length cw, .bool true]) (by simp [results, Tryd.results12, go_sem]) rfl ?_
          exact ⟨_, _, rfl, Hbf.out, Hfin.out, Hstab.out, HT5.out⟩
end Go.Proofs.YtpkjogjdacogeaaDoor
