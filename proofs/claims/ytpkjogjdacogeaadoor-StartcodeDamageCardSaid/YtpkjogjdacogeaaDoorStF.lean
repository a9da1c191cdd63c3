/- Format, of the code and of the reference. -/
import Derived.Test.YtpkjogjdacogeaaDoorStA
namespace Go.Proofs.YtpkjogjdacogeaaDoor
open Go.RowKit
set_option linter.unusedVariables false
set_option linter.unusedSimpArgs false

namespace SM
def fmtR (t : Int) (p : List Nat) : List Nat := if t < 1 ∨ 255 < t then [] else if endz p = true then [] else 0 :: 0 :: 1 :: t.toNat :: esc p
def fmtE (t : Int) (p : List Nat) : Int := if t < 1 ∨ 255 < t then 1 else if endz p = true then 3 else 0
end SM

theorem Ow.made (w : World) (base : Nat) (bs : List Nat) (hb : base ≤ w.heap.size) (hm : bs.length ≤ 1000) : Ow (w.alloc (.cells (by8 bs).toArray 5)) base (.slice (some ⟨w.heap.size, 0, none⟩) bs.length bs.length) bs :=
  .inr ⟨by simp [length_by8], .inr ⟨w.heap.size, bs.length, (by8 bs).toArray, rfl, hb, heap_alloc_new w _, Nat.le_refl _, by unfold maxLen; omega, by simp [length_by8], by simp only [Nat.mul_one]; exact List.take_of_length_le (by rw [length_by8]; exact Nat.le_refl _)⟩⟩

theorem made4 (w : World) (base : Nat) (t : Int) (hb : base ≤ w.heap.size) (ht1 : 1 ≤ t) (ht2 : t ≤ 255) :
    Ow (w.alloc (.cells #[.int .u8 0, .int .u8 0, .int .u8 1, .int .u8 t] 5)) base (.slice (some ⟨w.heap.size, 0, none⟩) 4 4) [0, 0, 1, t.toNat] := by
  have h := Ow.made w base [0, 0, 1, t.toNat] hb (by simp)
  have e : (by8 [0, 0, 1, t.toNat]).toArray = #[.int .u8 0, .int .u8 0, .int .u8 1, .int .u8 t] := by
    unfold by8
    simp
    omega
  rw [e] at h
  exact h

theorem fmt_c (w : World) (t : Int) (v : Value) (p : List Nat) (h : Sl w v p) (hp : p.length < 17592186044416) :
    Calls Tryd.prog 23 #[.agg #[.int .i64 t, v]] w fun e w' => Ans w w' e (SM.fmtR t p) (SM.fmtE t p) := by
  have H := Lib.hid h
  unfold SM.fmtR SM.fmtE
  by_cases ht : t < 1 ∨ 255 < t
  · rw [if_pos ht, if_pos ht]
    rcases ht with ht | ht
    · go_enter Tryd.func23, Tryd.ntmps23
      go_wp2_with fail
      go_ret2
      exact ⟨_, rfl, Ow.nil _ _, (Touch.refl _ _).alloc _⟩
    · have h1 : decide (t < 1) = false := by simp; omega
      go_enter Tryd.func23, Tryd.ntmps23
      go_wp2_with fail
      go_ret2
      exact ⟨_, rfl, Ow.nil _ _, (Touch.refl _ _).alloc _⟩
  · rw [if_neg ht, if_neg ht]
    have h1 : decide (t < 1) = false := by simp; omega
    have h2 : decide (255 < t) = false := by simp; omega
    have hl3 := SM.length_esc p 0
    have hcall := esc_c (w.alloc (.cells #[.int .i64 t, v] 33)) v p (H.out.to ((Touch.refl _ (fun _ => False)).alloc _) (fun _ _ _ h => h)) hp
    by_cases hz : SM.endz p = true
    · rw [if_pos hz, if_pos hz]
      have he1 : SM.escE p = 3 := if_pos hz
      rw [he1] at hcall
      have Hcall := Lib.hid hcall
      clear hcall he1 hz
      go_enter Tryd.func23, Tryd.ntmps23
      go_wp2_with fail
      refine Hcall.out.mono ?_
      rintro e w1 ⟨v1, rfl, ho1, ht1⟩
      have Ht1 := Lib.hid ht1
      clear ho1 ht1
      go_wp2_with fail
      go_ret2
      exact ⟨_, rfl, Ow.nil _ _, ((Touch.refl _ _).alloc _).trans Ht1.out (fun i hi => .inl hi)⟩
    · rw [if_neg hz, if_neg hz]
      have he1 : SM.escE p = 0 := if_neg hz
      have he2 : SM.escR p = SM.esc p := if_neg hz
      rw [he1, he2] at hcall
      have Hcall := Lib.hid hcall
      have hl4 : (SM.esc p).length ≤ 2 * p.length := hl3
      clear hcall he1 he2 hz hl3
      have hw : t % 256 = t := by omega
      go_enter Tryd.func23, Tryd.ntmps23
      go_wp2_with fail
      refine Hcall.out.mono ?_
      rintro e w1 ⟨v1, rfl, ho1, ht1⟩
      have c1 := (Cel.made w 33 #[.int .i64 t, v]).kept ht1 (fun h => h)
      have c10 := c1.cell 0
      simp at c10
      have hs1 := ht1.size
      simp at hs1
      have Ho1 := Lib.hid ho1
      have Ht1 := Lib.hid ht1
      clear ho1 ht1 c1
      go_wp2_with (at_builtin; refine wpl_append_ow (by rfl) _ _ (by rfl) w.heap.size _ _ [0, 0, 1, t.toNat] (SM.esc p) (by rfl) (by rfl) (made4 w1 w.heap.size t (by omega) (by omega) (by omega)) (Ho1.out.sl.to ((Touch.refl _ (fun _ => False)).alloc _) (fun _ _ _ h => h)) ?l1 ?b1 ?_)
      case l1 => simp; omega
      case b1 => first | omega | (simp; omega)
      intro v2 w2 ho2 ht2 _
      have Ho2 := Lib.hid ho2
      have Ht2 := Lib.hid ht2
      clear ho2 ht2
      go_wp2_with fail
      go_ret2
      exact ⟨_, rfl, Ho2.out, ((((Touch.refl _ _).alloc _).trans Ht1.out (fun i hi => .inl hi)).alloc _).trans Ht2.out (fun i hi => .inr hi.1)⟩

theorem rfmt_c (w : World) (t : Int) (v : Value) (p : List Nat) (h : Sl w v p) (hp : p.length < 17592186044416) :
    Calls Tryd.prog 22 #[.agg #[.int .i64 t, v]] w fun e w' => Ans w w' e (SM.fmtR t p) (SM.fmtE t p) := by
  have H := Lib.hid h
  unfold SM.fmtR SM.fmtE
  by_cases ht : t < 1 ∨ 255 < t
  · rw [if_pos ht, if_pos ht]
    rcases ht with ht | ht
    · go_enter Tryd.func22, Tryd.ntmps22
      go_wp2_with fail
      go_ret2
      exact ⟨_, rfl, Ow.nil _ _, (Touch.refl _ _).alloc _⟩
    · have h1 : decide (t < 1) = false := by simp; omega
      go_enter Tryd.func22, Tryd.ntmps22
      go_wp2_with fail
      go_ret2
      exact ⟨_, rfl, Ow.nil _ _, (Touch.refl _ _).alloc _⟩
  · rw [if_neg ht, if_neg ht]
    have h1 : decide (t < 1) = false := by simp; omega
    have h2 : decide (255 < t) = false := by simp; omega
    have hl3 := SM.length_esc p 0
    have hcall := resc_c (w.alloc (.cells #[.int .i64 t, v] 33)) v p (H.out.to ((Touch.refl _ (fun _ => False)).alloc _) (fun _ _ _ h => h)) hp
    by_cases hz : SM.endz p = true
    · rw [if_pos hz, if_pos hz]
      have he1 : SM.escE p = 3 := if_pos hz
      rw [he1] at hcall
      have Hcall := Lib.hid hcall
      clear hcall he1 hz
      go_enter Tryd.func22, Tryd.ntmps22
      go_wp2_with fail
      refine Hcall.out.mono ?_
      rintro e w1 ⟨v1, rfl, ho1, ht1⟩
      have Ht1 := Lib.hid ht1
      clear ho1 ht1
      go_wp2_with fail
      go_ret2
      exact ⟨_, rfl, Ow.nil _ _, ((Touch.refl _ _).alloc _).trans Ht1.out (fun i hi => .inl hi)⟩
    · rw [if_neg hz, if_neg hz]
      have he1 : SM.escE p = 0 := if_neg hz
      have he2 : SM.escR p = SM.esc p := if_neg hz
      rw [he1, he2] at hcall
      have Hcall := Lib.hid hcall
      have hl4 : (SM.esc p).length ≤ 2 * p.length := hl3
      clear hcall he1 he2 hz hl3
      have hw : t % 256 = t := by omega
      go_enter Tryd.func22, Tryd.ntmps22
      go_wp2_with fail
      refine Hcall.out.mono ?_
      rintro e w1 ⟨v1, rfl, ho1, ht1⟩
      have c1 := (Cel.made w 33 #[.int .i64 t, v]).kept ht1 (fun h => h)
      have c10 := c1.cell 0
      simp at c10
      have hs1 := ht1.size
      simp at hs1
      have Ho1 := Lib.hid ho1
      have Ht1 := Lib.hid ht1
      clear ho1 ht1 c1
      go_wp2_with (at_builtin; refine wpl_append_ow (by rfl) _ _ (by rfl) w.heap.size _ _ [0, 0, 1, t.toNat] (SM.esc p) (by rfl) (by rfl) (made4 w1 w.heap.size t (by omega) (by omega) (by omega)) (Ho1.out.sl.to ((Touch.refl _ (fun _ => False)).alloc _) (fun _ _ _ h => h)) ?l1 ?b1 ?_)
      case l1 => simp; omega
      case b1 => first | omega | (simp; omega)
      intro v2 w2 ho2 ht2 _
      have Ho2 := Lib.hid ho2
      have Ht2 := Lib.hid ht2
      clear ho2 ht2
      go_wp2_with fail
      go_ret2
      exact ⟨_, rfl, Ho2.out, ((((Touch.refl _ _).alloc _).trans Ht1.out (fun i hi => .inl hi)).alloc _).trans Ht2.out (fun i hi => .inr hi.1)⟩

end Go.Proofs.YtpkjogjdacogeaaDoor
