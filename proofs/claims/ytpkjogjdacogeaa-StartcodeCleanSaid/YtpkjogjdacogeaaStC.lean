/- formed; the law of Clean. -/
import Derived.Test.YtpkjogjdacogeaaStO
import Derived.Test.YtpkjogjdacogeaaStM2
namespace Go.Proofs.Ytpkjogjdacogeaa
open Go.RowKit
set_option linter.unusedVariables false
set_option linter.unusedSimpArgs false

/-- the answer of 'formed' -/
def FormedAns (w w' : World) (e : Ending) (us : List (Int × List Nat)) : Prop := ∃ b, e = .returned (.bool b) ∧ (b = true ↔ SM.Formed us) ∧ Touch w w' (fun _ => False)

namespace SM
theorem fmtE_iff (t : Int) (p : List Nat) : fmtE t p = 0 ↔ (1 ≤ t ∧ t ≤ 255) ∧ endz p = false := by
  unfold fmtE
  by_cases ht : t < 1 ∨ 255 < t
  · rw [if_pos ht]; simp; omega
  · rw [if_neg ht]
    by_cases hz : endz p = true
    · rw [if_pos hz, hz]; simp
    · rw [if_neg hz]; simp at hz ⊢; exact ⟨by omega, hz⟩
theorem fmtR_of {t : Int} {p : List Nat} (h : fmtE t p = 0) : fmtR t p = one (t, p) := by
  obtain ⟨h1, h2⟩ := (fmtE_iff t p).1 h
  unfold fmtR
  rw [if_neg (by omega), if_neg (by rw [h2]; simp)]
  rfl
end SM

set_option maxHeartbeats 400000 in
theorem formed_c (w : World) (B : Nat) (v : Value) (us : List (Int × List Nat)) (h : Us w B v us) (hB : B ≤ w.heap.size) :
    Calls Try.prog 15 #[v] w fun e w' => FormedAns w w' e us := by
  obtain ⟨A, c, rfl⟩ := h.len
  have H := Lib.hid h
  clear h
  by_cases hl : 20 < us.length
  · go_enter Try.func15, Try.ntmps15
    go_wp2_with fail
    go_ret
    exact ⟨_, rfl, ⟨fun h => (by cases h), fun h => by have := h.1; omega⟩, Touch.refl _ _⟩
  · go_enter Try.func15, Try.ntmps15
    go_wp2_with fail
    go_loopw [3] (fun i wr => ∃ k : Nat, k ≤ us.length ∧ i = .int .i64 (k : Int) ∧ (∀ q ∈ us.take k, SM.Fmd q) ∧ Touch w wr (fun _ => False)) (fun i _ => us.length - (intOf i).toNat)
    case atStart => exact ⟨0, Nat.zero_le _, rfl, by simp, Touch.refl _ _⟩
    case round =>
      obtain ⟨k, hk, rfl, hq, hT⟩ := hrel
      have HT := Lib.hid hT
      by_cases hlt : k < us.length
      · obtain ⟨g, o, t, bs, u, rfl, hg, huk, d0, d1, hsl, hlo, hb, ht1, ht2⟩ := (H.out.to hT hB (fun _ _ h => h)).at_ k hlt
        have hmem : (t, bs) ∈ us := List.mem_of_getElem? huk
        have hstep : us.take (k + 1) = us.take k ++ [(t, bs)] := by rw [List.take_add_one, huk]; rfl
        have hall : SM.Fmd (t, bs) → ∀ q ∈ us.take (k + 1), SM.Fmd q := by
          intro h q hq2
          rw [hstep, List.mem_append] at hq2
          rcases hq2 with h2 | h2
          · exact hq q h2
          · simp at h2; rw [h2]; exact h
        obtain ⟨A2, c2, rfl⟩ := hsl.len
        have Hsl := Lib.hid hsl
        have Hall := Lib.hid hall
        have Hmem := Lib.hid hmem
        clear hsl hstep hall hmem huk hq hT hlo hb
        by_cases hlen : 100 < bs.length
        · go_wp2_with fail
          go_ret
          exact ⟨_, rfl, ⟨fun h => (by cases h), fun h => by have : bs.length ≤ 100 := (h.2 _ Hmem.out).1; omega⟩, HT.out⟩
        · have hfm := rfmt_c wr t _ bs Hsl.out (by omega)
          by_cases he : SM.fmtE t bs = 0
          · rw [he] at hfm
            have Hfm := Lib.hid hfm
            have He := Lib.hid he
            clear hfm he
            go_wp2_with fail
            refine Hfm.out.mono ?_
            rintro e w1 ⟨v1, rfl, ho1, ht1'⟩
            have Ht1 := Lib.hid ht1'
            clear ho1 ht1'
            go_wp2_with fail
            go_roundw
            case rel => exact ⟨k + 1, by omega, by go_num, Hall.out ⟨by show bs.length ≤ 100; omega, (SM.fmtE_iff t bs).1 He.out⟩, HT.out.trans Ht1.out (fun i hi => .inl hi)⟩
            case measure => simp [intOf]; omega
          · have hne : (SM.fmtE t bs != 0) = true := by rw [bne_iff_ne]; exact he
            have Hfm := Lib.hid hfm
            have He := Lib.hid he
            clear hfm he
            go_wp2_with fail
            refine Hfm.out.mono ?_
            rintro e w1 ⟨v1, rfl, ho1, ht1'⟩
            have Ht1 := Lib.hid ht1'
            clear ho1 ht1'
            go_wp2_with fail
            go_ret
            refine ⟨_, rfl, ⟨fun h => (by cases h), fun h => ?_⟩, HT.out.trans Ht1.out (fun i hi => .inl hi)⟩
            exact absurd ((SM.fmtE_iff t bs).2 (h.2 _ Hmem.out).2) He.out
      · obtain rfl : k = us.length := by omega
        rw [List.take_length] at hq
        have Hq := Lib.hid hq
        clear hq hT
        go_wp2
        go_ret
        exact ⟨_, rfl, ⟨fun _ => ⟨by omega, Hq.out⟩, fun _ => rfl⟩, HT.out⟩

theorem Us.single (w : World) (t : Int) (v : Value) (p : List Nat) (h : Sl w v p) (ht : -9223372036854775808 ≤ t ∧ t ≤ 9223372036854775807) (hb : ∀ x ∈ p, x < 256) (hl : ∀ i, p ≠ [] → v.ownBlock = some i → i < w.heap.size) :
    Us (w.alloc (.cells #[.int .i64 t, v] 30)) (w.heap.size + 1) (.slice (some ⟨w.heap.size, 0, none⟩) 1 1) [(t, p)] := by
  refine ⟨fun q hq => ?_, .inr ⟨w.heap.size, 0, 1, rfl, by simp, by omega, fun k q hq => ?_⟩⟩
  · simp at hq; subst hq; exact ⟨ht, hb⟩
  · cases k with
    | succ k => simp at hq
    | zero =>
      simp at hq
      subst hq
      have c := Cel.made w 30 #[.int .i64 t, v]
      refine ⟨v, by simp [c.cell], by simp [c.cell], h.to ((Touch.refl _ (fun _ => False)).alloc _) (fun _ _ _ h => h), fun i hne hi => ?_⟩
      have := hl i hne hi
      omega

set_option maxHeartbeats 400000 in
theorem lawClean_c (w : World) (t : Int) (v : Value) (p : List Nat) (h : Sl w v p) (ht : -9223372036854775808 ≤ t ∧ t ≤ 9223372036854775807) (hb : ∀ x ∈ p, x < 256) (hlo : ∀ i, p ≠ [] → v.ownBlock = some i → i < w.heap.size) :
    Calls Try.prog 6 #[.agg #[.int .i64 t, v]] w fun e w' => e = .returned (.bool true) ∧ Touch w w' (fun _ => False) := by
  have t1 : Touch w (w.alloc (.cells #[.int .i64 t, v] 30)) (fun _ => False) := (Touch.refl _ _).alloc _
  have hs1 := h.to t1 (fun _ _ _ h => h)
  have hus := Us.single (w.alloc (.cells #[.int .i64 t, v] 30)) t v p hs1 ht hb (fun i hne hi => by have := hlo i hne hi; simp; omega)
  have hform := formed_c _ _ _ _ hus (by simp)
  simp only [World.size_alloc] at hform
  have Hform := Lib.hid hform
  have H := Lib.hid h
  have T2 := Lib.hid (t1.alloc (.cells #[.int .i64 t, v] 30))
  clear hus hform hs1 t1 h hlo
  go_enter Try.func6, Try.ntmps6
  go_wp2_with fail
  refine Hform.out.mono ?_
  rintro e w1 ⟨b, rfl, hbf, ht1⟩
  have c1 : Cel w1 w.heap.size 30 #[.int .i64 t, v] := by
    refine Cel.kept ?_ ht1 (fun h => h)
    have := (Cel.made w 30 #[.int .i64 t, v])
    exact this.kept ((Touch.refl _ (fun _ => False)).alloc _) (fun h => h)
  have c10 := c1.cell 0
  have c11 := c1.cell 1
  simp at c10 c11
  have Ht1 := Lib.hid (T2.out.trans ht1 (fun i hi => .inl hi))
  have Hbf := Lib.hid hbf
  clear ht1 c1 hbf
  cases b with
  | false =>
    go_wp2_with fail
    refine (awake_c _).mono ?_
    rintro e w2 ⟨rfl, ht2⟩
    have Ht2 := Lib.hid ht2
    clear ht2
    go_wp2_with fail
    go_ret
    exact ⟨rfl, Ht1.out.trans Ht2.out (fun i hi => .inl hi)⟩
  | true =>
    have hF := Hbf.out.1 rfl
    have hq : SM.Fmd (t, p) := hF.2 (t, p) (by simp)
    have he : SM.fmtE t p = 0 := (SM.fmtE_iff t p).2 hq.2
    have hR := SM.fmtR_of he
    have hcall := fmt_c w1 t v p (H.out.to Ht1.out (fun _ _ _ h => h)) (by have : p.length ≤ 100 := hq.1; omega)
    rw [he, hR] at hcall
    have hlen := SM.length_one (t, p)
    have hlast := SM.one_last (t, p) hq
    have hl3 := SM.length_esc p 0
    have hclean : SM.Clean ((SM.one (t, p)).drop 1) := SM.fmt_clean t.toNat (by have := hq.2.1; simp at this; omega) p
    have hl4 : (SM.esc p).length ≤ 200 := by have : p.length ≤ 100 := hq.1; have : (SM.esc p).length ≤ 2 * p.length := hl3; omega
    simp only at hlen
    have Hcall := Lib.hid hcall
    clear hF hq he hR hcall hl3 Hbf
    go_wp2_with fail
    refine Hcall.out.mono ?_
    rintro e w2 ⟨v2, rfl, ho2, ht2⟩
    obtain ⟨g, o, cap, rfl, hcap, hg, hcell⟩ := ho2.sl.some_ (by omega)
    have dlast := hcell ((SM.one (t, p)).length - 1) (by omega)
    have hlz : ((((SM.one (t, p)).getD ((SM.one (t, p)).length - 1) 0 : Nat) : Int) == 0) = false := (beq_k _ 0).trans (beq_eq_false_iff_ne.2 hlast)
    generalize (SM.one (t, p)).getD ((SM.one (t, p)).length - 1) 0 = y0 at *
    generalize hF : SM.one (t, p) = F at *
    generalize hL : F.length = L at *
    have Ht2 := Lib.hid ht2
    have Hcell := Lib.hid hcell
    have Hclean := Lib.hid hclean
    have HL := Lib.hid hL
    have hL4 : 4 ≤ L := by omega
    have hLb : L ≤ 204 := by omega
    clear ho2 ht2 hcell hclean hlast hF hL hlen
    go_wp2_with fail
    clear dlast hlz
    go_loopw [5] (fun i wr => ∃ k : Nat, 1 ≤ k ∧ k ≤ L ∧ i = .int .i64 (k : Int) ∧ wr = w2) (fun i _ => L - (intOf i).toNat)
    case atStart => exact ⟨1, by omega, by omega, rfl, rfl⟩
    case round =>
      obtain ⟨k, hk1, hk, rfl, rfl⟩ := hrel
      by_cases hlt : k + 2 < L
      · have d0 := Hcell.out k (by omega)
        have d1 := Hcell.out (k + 1) (by omega)
        have d2 := Hcell.out (k + 2) (by omega)
        have hcl := Hclean.out (k - 1) (by rw [List.length_drop, HL.out]; omega)
        have e0 : (F.drop 1).getD (k - 1) 0 = F.getD k 0 := by simp [List.getD]; congr 2; omega
        have e1 : (F.drop 1).getD (k - 1 + 1) 0 = F.getD (k + 1) 0 := by simp [List.getD]; congr 2; omega
        have e2 : (F.drop 1).getD (k - 1 + 2) 0 = F.getD (k + 2) 0 := by simp [List.getD]; congr 2; omega
        rw [e0, e1, e2] at hcl
        have a0 := beq_k (F.getD k 0) 0
        have a1 := beq_k (F.getD (k + 1) 0) 0
        clear e0 e1 e2
        have hst : (((F.getD k 0 : Nat) : Int) == 0) = false ∨ (F.getD k 0 = 0 ∧ (((F.getD (k + 1) 0 : Nat) : Int) == 0) = false) ∨ (F.getD k 0 = 0 ∧ F.getD (k + 1) 0 = 0 ∧ decide (((F.getD (k + 2) 0 : Nat) : Int) < 3) = false) := by
          by_cases h0 : F.getD k 0 = 0
          · by_cases h1 : F.getD (k + 1) 0 = 0
            · exact .inr (.inr ⟨h0, h1, decide_eq_false (fun h => hcl ⟨h0, h1, by omega⟩)⟩)
            · exact .inr (.inl ⟨h0, a1.trans (beq_eq_false_iff_ne.2 h1)⟩)
          · exact .inl (a0.trans (beq_eq_false_iff_ne.2 h0))
        clear hcl a0 a1
        generalize F.getD k 0 = x at *
        generalize F.getD (k + 1) 0 = y at *
        generalize F.getD (k + 2) 0 = z at *
        rcases hst with hx | ⟨rfl, hy⟩ | ⟨rfl, rfl, hz⟩
        all_goals
          go_wp2_with fail
          go_roundw
          case rel => exact ⟨k + 1, by omega, by omega, by go_num, (by first | rfl | trivial)⟩
          case measure => simp [intOf]; omega
      · go_wp2_with fail
        refine (awake_c _).mono ?_
        rintro e w3 ⟨rfl, ht3⟩
        have Ht3 := Lib.hid ht3
        clear ht3
        go_wp2_with fail
        go_ret
        exact ⟨rfl, (Ht1.out.trans Ht2.out (fun i hi => .inl hi)).trans Ht3.out (fun i hi => .inl hi)⟩
end Go.Proofs.Ytpkjogjdacogeaa
