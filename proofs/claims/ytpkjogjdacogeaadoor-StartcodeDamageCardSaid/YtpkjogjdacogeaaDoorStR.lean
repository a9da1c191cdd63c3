/- The reference's Escape. -/
import Derived.Test.YtpkjogjdacogeaaDoorStU
namespace Go.Proofs.YtpkjogjdacogeaaDoor
open Go.RowKit
set_option linter.unusedVariables false
set_option linter.unusedSimpArgs false

theorem resc_bad (w : World) (v : Value) (p : List Nat) (h : Sl w v p) (hp : p.length < 17592186044416) (hz : SM.endz p = true) :
    Calls Tryd.prog 28 #[v] w fun e w' => e = .returned (.tuple #[.slice none 0 0, .int .i64 3]) ∧ w = w' := by
  rw [SM.endz_at, Bool.and_eq_true] at hz
  have h0 := of_decide_eq_true hz.1
  obtain ⟨g, o, cap, rfl, h1, h2, h3⟩ := h.some_ h0
  have hc := h3 (p.length - 1) (by omega)
  have hy : p.getD (p.length - 1) 0 = 0 := by simpa using hz.2
  rw [hy] at hc
  clear h3 h hz hy
  generalize p.length = n at *
  go_enter Tryd.func28, Tryd.ntmps28
  go_wp2
  go_ret2
  exact ⟨rfl, rfl⟩

theorem zs_app3 (out : List Nat) (y : Nat) : SM.zs (out ++ [3, y]) = SM.zz 0 y := by
  rw [show out ++ [3, y] = out ++ [3] ++ [y] by simp, SM.zs_snoc, SM.zs_snoc]
  rfl

theorem resc_none (w : World) (A : Option Addr) (c : Nat) :
    Calls Tryd.prog 28 #[.slice A 0 c] w fun e w' => Ans w w' e (SM.esc []) 0 := by
  go_enter Tryd.func28, Tryd.ntmps28
  go_wp2_with fail
  go_loopw [4, 5] (fun v i wr => v = .slice none 0 0 ∧ i = .int .i64 0 ∧ wr = w) (fun _ _ _ => 0)
  case atStart => exact ⟨rfl, rfl, rfl⟩
  case round =>
    obtain ⟨rfl, rfl, rfl⟩ := hrel
    go_wp2
    go_ret2
    exact ⟨_, rfl, Ow.nil _ _, Touch.refl _ _⟩

set_option maxHeartbeats 800000 in
theorem resc_some (w : World) (v : Value) (p : List Nat) (h : Sl w v p) (hp : p.length < 17592186044416) (hz : SM.endz p = false) (hpos : 0 < p.length) :
    Calls Tryd.prog 28 #[v] w fun e w' => Ans w w' e (SM.esc p) 0 := by
  have H := Lib.hid h
  obtain ⟨g, o, c, rfl, hcap, hg, hcell⟩ := h.some_ hpos
  have Hcell := Lib.hid hcell
  rw [SM.endz_at, decide_eq_true hpos, Bool.true_and] at hz
  have hc0 := hcell (p.length - 1) (by omega)
  have hyz : (((p.getD (p.length - 1) 0 : Nat) : Int) == 0) = false := by rw [← hz]; exact beq_k _ 0
  generalize p.getD (p.length - 1) 0 = ylast at *
  clear hz h hcell
  go_enter Tryd.func28, Tryd.ntmps28
  go_wp2_with fail
  clear hc0 hyz
  go_loopw [4, 5] (fun v i wr => ∃ (k : Nat) (out : List Nat), k ≤ p.length ∧ i = .int .i64 (k : Int) ∧ SM.zs out ≤ 2 ∧ out.length ≤ 2 * k ∧ SM.esc p = out ++ SM.escF (SM.zs out) (p.drop k) ∧ Ow wr w.heap.size v out ∧ Touch w wr (fun _ => False)) (fun _ i _ => p.length - (intOf i).toNat)
  case atStart => exact ⟨0, [], Nat.zero_le _, rfl, by simp [SM.zs], by simp, by simp [SM.esc, SM.zs], Ow.nil _ _, Touch.refl _ _⟩
  case round =>
    obtain ⟨k, out, hk, rfl, hzn, hlen, hesc, hO, hT⟩ := hrel
    have HT := Lib.hid hT
    have HO := Lib.hid hO
    by_cases hlt : k < p.length
    · have hc : wr.cell? ⟨g, o + k, none⟩ = some (.int .u8 ((p.getD k 0 : Nat) : Int)) := (hT.cell (p := ⟨g, o + k, none⟩) hg (fun e => e)).trans (Hcell.out k hlt)
      have hd := drop_get hlt
      rw [hd] at hesc
      have h2 := SM.zs_two out
      unfold SM.escF at hesc
      have hsz := HT.out.size
      have hlg : ∃ A' c', u4 = .slice A' out.length c' := hO.sl.len
      have hsl := hO.sl
      obtain ⟨A', c', rfl⟩ := hlg
      have hl2 : out.length + 2 ≤ 140737488355328 := by omega
      have Hl := Lib.hid hl2
      have H2 := Lib.hid h2
      clear hl2 hd h2 hT hO
      have fin : ∀ v2 w2 (S : Nat → Prop), (∀ i, S i → w.heap.size ≤ i) → ¬ (SM.zs out = 2 ∧ p.getD k 0 < 4) → Ow w2 w.heap.size v2 (out ++ [p.getD k 0]) → Touch (wr.alloc (.cells #[.int .u8 ((p.getD k 0 : Nat) : Int)] 5)) w2 S → ∃ (k' : Nat) (out' : List Nat), k' ≤ p.length ∧ Value.int IntKind.i64 ((k : Int) + 1) = .int .i64 (k' : Int) ∧ SM.zs out' ≤ 2 ∧ out'.length ≤ 2 * k' ∧ SM.esc p = out' ++ SM.escF (SM.zs out') (p.drop k') ∧ Ow w2 w.heap.size v2 out' ∧ Touch w w2 (fun _ => False) := by
        intro v2 w2 S hS hcase ho2 ht2
        rw [if_neg hcase] at hesc
        refine ⟨k + 1, out ++ [p.getD k 0], by omega, by go_num, by rw [SM.zs_snoc]; exact SM.zz_le hzn hcase, by simp; omega, by rw [hesc, SM.zs_snoc]; simp, ho2, ?_⟩
        exact (HT.out.alloc _).trans ht2 (fun i hi => .inr (hS i hi))
      have Fin := Lib.hid fin
      have Hesc := Lib.hid hesc
      have Hsl := Lib.hid hsl
      clear hesc fin hsl
      generalize p.getD k 0 = y at *
      have Hzn := Lib.hid hzn
      clear hzn
      by_cases hcase : SM.zs out = 2 ∧ y < 4
      · obtain ⟨hz2, hy⟩ := hcase
        obtain ⟨hn2, ha, hb⟩ := H2.out.1 (by omega)
        obtain ⟨g2, o2, cap2, hv2, hcap3, hg2, hcell2⟩ := Hsl.out.some_ (by omega)
        injection hv2 with hv2 _ hc2
        subst hv2 hc2
        have d1 := hcell2 (out.length - 1) (by omega)
        have d2 := hcell2 (out.length - 2) (by omega)
        rw [ha] at d1
        rw [hb] at d2
        have Hz2 := Lib.hid hz2
        clear hcell2 ha hb hz2
        have hlo : out.length ≤ 70368744177664 := by have := Hl.out; omega
        generalize hL : out.length = L at *
        have HL := Lib.hid hL
        clear hL
        go_wp2_with (at_builtin; refine wpl_append_ow (by rfl) _ _ (by rfl) w.heap.size _ _ _ [3] (by rfl) (by rfl) (HO.out.to ((Touch.refl _ (fun _ => False)).alloc _) (fun _ _ _ _ h => h)) (Sl.one _ 3) ?l1 ?b1 ?_)
        case l1 => have := Hl.out; have := HL.out; first | omega | (simp; omega)
        case b1 => first | omega | (simp; omega)
        intro v1 w1 ho1 ht1 _
        have hc1 : w1.cell? ⟨g, o + k, none⟩ = some (.int .u8 (y : Int)) := by
          refine (ht1.cell (p := ⟨g, o + k, none⟩) (by simp; omega) (by simp; intro h; omega)).trans ?_
          exact (World.cell?_of_block (Below.heap_alloc wr _ g (by omega))).trans hc
        have Ho1 := Lib.hid ho1
        have Ht1 := Lib.hid ht1
        have hs1 := ht1.size
        simp at hs1
        clear ho1 ht1 d1 d2 hc
        go_wp2_with (at_builtin; refine wpl_append_ow (by rfl) _ _ (by rfl) w.heap.size _ _ _ [y] (by rfl) (by rfl) (Ho1.out.to ((Touch.refl _ (fun _ => False)).alloc _) (fun _ _ _ _ h => h)) (Sl.one _ y) ?l2 ?b2 ?_)
        case l2 => have := Hl.out; have := HL.out; simp; omega
        case b2 => first | omega | (simp; omega)
        intro v2 w2 ho2 ht2 _
        have Ho2 := Lib.hid ho2
        have Ht2 := Lib.hid ht2
        clear ho2 ht2
        go_wp2_with fail
        go_roundw
        case rel =>
          have hes := Hesc.out
          rw [if_pos ⟨Hz2.out, hy⟩] at hes
          refine ⟨k + 1, out ++ [3, y], by omega, by go_num, by rw [zs_app3]; exact SM.zz0_le y, by have := HL.out; simp; omega, by rw [hes, zs_app3]; simp, by simpa using Ho2.out, ?_⟩
          exact (((HT.out.alloc _).trans Ht1.out (fun i hi => .inr hi.1)).alloc _).trans Ht2.out (fun i hi => .inr hi.1)
        case measure => simp [intOf]; omega
      · have hstate : (¬ y < 4) ∨ (y < 4 ∧ out.length < 2) ∨ (y < 4 ∧ 2 ≤ out.length ∧ ∃ g2 o2 d, A' = some ⟨g2, o2, none⟩ ∧ wr.cell? ⟨g2, o2 + (out.length - 1), none⟩ = some (.int .u8 ((d : Nat) : Int)) ∧ (((d : Nat) : Int) == 0) = false) ∨
            (y < 4 ∧ 2 ≤ out.length ∧ ∃ g2 o2 d, A' = some ⟨g2, o2, none⟩ ∧ wr.cell? ⟨g2, o2 + (out.length - 1), none⟩ = some (.int .u8 0) ∧ wr.cell? ⟨g2, o2 + (out.length - 2), none⟩ = some (.int .u8 ((d : Nat) : Int)) ∧ (((d : Nat) : Int) == 0) = false) := by
          by_cases hy : y < 4
          · by_cases hn : out.length < 2
            · exact .inr (.inl ⟨hy, hn⟩)
            · obtain ⟨g2, o2, cap2, hv2, hcap3, hg2, hcell2⟩ := Hsl.out.some_ (by omega)
              injection hv2 with hv2
              have hnz : ¬ 2 ≤ SM.zs out := by have := Hzn.out; omega
              have d1 := hcell2 (out.length - 1) (by omega)
              have d2 := hcell2 (out.length - 2) (by omega)
              by_cases ha : out.getD (out.length - 1) 0 = 0
              · have hb : out.getD (out.length - 2) 0 ≠ 0 := fun hb => hnz (H2.out.2 ⟨by omega, ha, hb⟩)
                rw [ha] at d1
                exact .inr (.inr (.inr ⟨hy, by omega, g2, o2, _, hv2, d1, d2, (beq_k _ 0).trans (beq_eq_false_iff_ne.2 hb)⟩))
              · exact .inr (.inr (.inl ⟨hy, by omega, g2, o2, _, hv2, d1, (beq_k _ 0).trans (beq_eq_false_iff_ne.2 ha)⟩))
          · exact .inl hy
        have hlo : out.length ≤ 70368744177664 := by have := Hl.out; omega
        have Hcase := Lib.hid hcase
        clear hcase
        generalize hL : out.length = L at *
        have HL := Lib.hid hL
        clear hL
        rcases hstate with hy | ⟨hy, hn⟩ | ⟨hy, hn, g2, o2, d, rfl, d1, d1z⟩ | ⟨hy, hn, g2, o2, d, rfl, d1, d2, d2z⟩
        all_goals
          go_wp2_with (at_builtin; refine wpl_append_ow (by rfl) _ _ (by rfl) w.heap.size _ _ _ [y] (by rfl) (by rfl) (HO.out.to ((Touch.refl _ (fun _ => False)).alloc _) (fun _ _ _ _ h => h)) (Sl.one _ y) ?l2 ?b2 ?_)
          case l2 => have := Hl.out; have := HL.out; first | omega | (simp; omega)
          case b2 => first | omega | (simp; omega)
          intro v2 w2 ho2 ht2 _
          have Hf := Lib.hid (Fin.out v2 w2 _ (fun _ h => h.1) Hcase.out ho2 ht2)
          clear ho2 ht2
          go_wp2_with fail
          go_roundw
          case rel => exact Hf.out
          case measure => simp [intOf]; omega
    · obtain rfl : k = p.length := by omega
      rw [List.drop_length] at hesc
      have e1 : SM.esc p = out := by rw [hesc]; simp [SM.escF]
      have He1 := Lib.hid e1
      clear hesc e1 hT hO
      go_wp2
      go_ret2
      rw [He1.out]
      exact ⟨_, rfl, HO.out, HT.out⟩

theorem resc_c (w : World) (v : Value) (p : List Nat) (h : Sl w v p) (hp : p.length < 17592186044416) :
    Calls Tryd.prog 28 #[v] w fun e w' => Ans w w' e (SM.escR p) (SM.escE p) := by
  unfold SM.escR SM.escE
  by_cases hz : SM.endz p = true
  · rw [if_pos hz, if_pos hz]
    refine (resc_bad w v p h hp hz).mono ?_
    rintro e w' ⟨rfl, rfl⟩
    exact ⟨_, rfl, Ow.nil _ _, Touch.refl _ _⟩
  · rw [if_neg hz, if_neg hz]
    rcases Nat.eq_zero_or_pos p.length with h0 | h0
    · obtain rfl := List.eq_nil_of_length_eq_zero h0
      obtain ⟨A, c, rfl⟩ := h.len
      exact resc_none w A c
    · exact resc_some w v p h hp (by simpa using hz) h0
end Go.Proofs.YtpkjogjdacogeaaDoor
