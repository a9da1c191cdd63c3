/- The code of vlc that reads: zerosAhead, TakeUnsigned, TakeSigned. -/
import Derived.Test.YtodolejhdellbaaVlA
import Derived.Test.YtodolejhdellbaaBitK
namespace Go.Proofs.Ytodolejhdellbaa
open Go.RowKit

theorem BM.zeros_part (l : List Bool) (t n : Nat) (hn : n = min (l.length - t) 16) : Lib.bitLen (BM.num (BM.part l t n)) ≤ n ∧ n - Lib.bitLen (BM.num (BM.part l t n)) = BM.zl (l.drop t) 16 := by
  have hd : (l.drop t).length = l.length - t := List.length_drop
  have hl : (BM.part l t n).length = n := by unfold BM.part; rw [List.length_take, hd]; omega
  have hz := BM.zl_len n (BM.part l t n)
  have hb := BM.bitLen_num (BM.part l t n) (by omega)
  rw [hl] at hb
  have e : BM.zl (BM.part l t n) n = BM.zl (l.drop t) 16 := by
    unfold BM.part
    rw [BM.zl_take]
    by_cases h : n = 16
    · rw [h]
    · rw [BM.zl_more (l.drop t) 16 (by omega), hd, show n = l.length - t by omega]
  rw [hb, e]
  rw [e] at hz
  omega

theorem Rd.copy {w : World} {base g : Nat} {A : Option Addr} {c : Nat} {p : List Nat} {t : Nat} (h : Rd w base g A c p t) : Rd (w.alloc (.cells #[.slice A p.length c, .int .i64 (t : Int), .int .i64 (BM.cnt p : Int)] 63)) base w.heap.size A c p t :=
  ⟨by have := h.from_; have := h.cel.lt; omega, Cel.made _ _ _, h.own.alloc _, h.good, h.taken⟩

set_option maxHeartbeats 400000 in
theorem zeros_c (w : World) (base g : Nat) (A : Option Addr) (c : Nat) (p : List Nat) (t : Nat) (h : Rd w base g A c p t) (hp : p.length < 1099511627776) :
    Calls Try.prog 44 #[.agg #[.slice A p.length c, .int .i64 (t : Int), .int .i64 (BM.cnt p : Int)]] w fun e w' => e = .returned (.int .i64 (BM.zl ((BM.unpk p).drop t) 16 : Int)) ∧ Touch w w' (fun _ => False) := by
  have hc := h.copy
  have ht := h.taken
  have hcl := h.good.cnt_lt
  have hlu := BM.length_unpk p
  obtain ⟨n, hn⟩ : ∃ n, n = min (BM.cnt p - t) 16 := ⟨_, rfl⟩
  have hz := BM.zeros_part (BM.unpk p) t n (by rw [hlu]; exact hn)
  have hlt := BM.num_lt (BM.part (BM.unpk p) t n)
  have hpl := BM.length_part (BM.unpk p) t n
  have hpw : 2 ^ (BM.part (BM.unpk p) t n).length ≤ 2 ^ 16 := Nat.pow_le_pow_right (by decide) (by omega)
  have Hc := Lib.hid hc; have Hn := Lib.hid hn; have Hz := Lib.hid hz
  clear hc h hn hz hlu
  go_enter Try.func44, Try.ntmps44
  go_wp2_with fail
  refine (left_c _ base _ A c p t Hc.out hp).mono ?_
  rintro e w1 ⟨rfl, k, rfl⟩
  have hmin : min ((BM.cnt p - t : Nat) : Int) 16 = (n : Int) := by have := Hn.out; omega
  go_wp2_with fail
  refine (take_ok _ base _ A c p t n (Hc.out.drewN _) hp (by have := Hn.out; omega) (by have := Hn.out; omega)).mono ?_
  rintro e w2 ⟨rfl, _, ht2⟩
  have hT2 : Touch w w2 (fun _ => False) := ((Touch.refl w _).alloc _).trans ht2.undrewN (fun i hi => .inr (by omega))
  have HT2 := Lib.hid hT2
  clear hT2 ht2
  go_wp2_with fail
  refine (Try.bits_Len32 _ _ (by omega) (by omega)).mono ?_
  rintro e w3 ⟨rfl, rfl⟩
  rw [Int.toNat_natCast]
  obtain ⟨hz1, hz2⟩ := Hz.out
  generalize Lib.bitLen (BM.num (BM.part (BM.unpk p) t n)) = b at *
  have hres : (BM.zl ((BM.unpk p).drop t) 16 : Int) = (n : Int) - (b : Int) := by omega
  have Hres := Lib.hid hres
  clear hres hz2
  go_wp2
  go_ret
  exact ⟨by rw [Hres.out]; rfl, HT2.out⟩

theorem takeu_nil (w : World) : Calls Try.prog 29 #[.pointer none] w fun e w' => e = .returned (.tuple #[.int .i64 0, .int .i64 1]) ∧ w' = w := by
  go_enter Try.func29, Try.ntmps29
  go_wp2
  go_ret2
  exact ⟨rfl, rfl⟩

set_option maxHeartbeats 400000 in
theorem takeu_c (w : World) (base g : Nat) (A : Option Addr) (c : Nat) (p : List Nat) (t : Nat) (h : Rd w base g A c p t) (hp : p.length < 1099511627776) :
    Calls Try.prog 29 #[.pointer (some ⟨g, 0, none⟩)] w fun e w' =>
      e = .returned (.tuple #[.int .i64 (BM.tku (BM.unpk p) t).1, .int .i64 (BM.tku (BM.unpk p) t).2]) ∧ Rd w' base g A c p (BM.mvu (BM.unpk p) t) ∧ Touch w w' (fun k => k = g) := by
  have c0 := h.cel.cell 0
  have c1 := h.cel.cell 1
  have c2 := h.cel.cell 2
  simp at c0 c1 c2
  have hlu := BM.length_unpk p
  have hz := zeros_c w base g A c p t h hp
  have hzl := BM.zl_le 16 ((BM.unpk p).drop t)
  have Hz := Lib.hid hz; have H := Lib.hid h
  have htk : BM.tku (BM.unpk p) t = if BM.zl ((BM.unpk p).drop t) 16 = 16 then (0, 3) else if BM.cnt p - t < 2 * BM.zl ((BM.unpk p).drop t) 16 + 1 then (0, 4) else ((BM.num (BM.part (BM.unpk p) t (2 * BM.zl ((BM.unpk p).drop t) 16 + 1)) : Int) - 1, 0) := by unfold BM.tku; rw [hlu]
  have hmv : BM.mvu (BM.unpk p) t = if BM.zl ((BM.unpk p).drop t) 16 = 16 then t else if BM.cnt p - t < 2 * BM.zl ((BM.unpk p).drop t) 16 + 1 then t else t + (2 * BM.zl ((BM.unpk p).drop t) 16 + 1) := by unfold BM.mvu; rw [hlu]
  rw [htk, hmv]
  clear hz h hlu htk hmv
  generalize BM.zl ((BM.unpk p).drop t) 16 = k at *
  by_cases h16 : k = 16
  · rw [if_pos h16, if_pos h16]
    subst h16
    go_enter Try.func29, Try.ntmps29
    go_wp2_with fail
    refine Hz.out.mono ?_
    rintro e w1 ⟨rfl, ht1⟩
    have Ht1 := Lib.hid ht1
    clear ht1
    go_wp2
    go_ret2
    exact ⟨rfl, H.out.kept0 Ht1.out, Ht1.out.wide (fun _ e => e.elim)⟩
  · rw [if_neg h16, if_neg h16]
    have hk : k ≤ 15 := by omega
    have hd : decide ((15 : Int) < (k : Int)) = false := by simp; omega
    clear h16 hzl
    by_cases hs : BM.cnt p - t < 2 * k + 1
    · rw [if_pos hs, if_pos hs]
      go_enter Try.func29, Try.ntmps29
      go_wp2_with fail
      refine Hz.out.mono ?_
      rintro e w1 ⟨rfl, ht1⟩
      have Ht1 := Lib.hid ht1
      have hts := take_short w1 base g A c p t (2 * k + 1) (H.out.kept0 ht1) hp (by omega) hs
      have Hts := Lib.hid hts
      clear ht1 hts hs
      go_wp2_with fail
      refine Hts.out.mono ?_
      rintro e w2 ⟨rfl, m, rfl⟩
      go_wp2
      go_ret2
      exact ⟨rfl, (H.out.kept0 Ht1.out).drewN _, (Ht1.out.wide (fun _ e => e.elim)).drewN _⟩
    · rw [if_neg hs, if_neg hs]
      have hlt := BM.num_lt (BM.part (BM.unpk p) t (2 * k + 1))
      have hpl := BM.length_part (BM.unpk p) t (2 * k + 1)
      have hpw : 2 ^ (BM.part (BM.unpk p) t (2 * k + 1)).length ≤ 2 ^ 31 := Nat.pow_le_pow_right (by decide) (by omega)
      go_enter Try.func29, Try.ntmps29
      go_wp2_with fail
      refine Hz.out.mono ?_
      rintro e w1 ⟨rfl, ht1⟩
      have Ht1 := Lib.hid ht1
      have hts := take_ok w1 base g A c p t (2 * k + 1) (H.out.kept0 ht1) hp (by omega) (by omega)
      have Hts := Lib.hid hts
      clear ht1 hts hs
      go_wp2_with fail
      refine Hts.out.mono ?_
      rintro e w2 ⟨rfl, hR, ht2⟩
      have HR := Lib.hid hR; have HT := Lib.hid ((Ht1.out.wide (S' := fun k => k = g) (fun _ e => e.elim)).trans ht2 (fun _ e => .inl e))
      clear hR ht2
      generalize hx : BM.num (BM.part (BM.unpk p) t (2 * k + 1)) = x at *
      have Hx := Lib.hid hx
      have hxx : x < 2147483648 := by omega
      clear hx hlt hpl hpw
      go_wp2
      go_ret2
      exact ⟨by rw [Hx.out]; rfl, HR.out, HT.out⟩

/-- what TakeSigned answers -/
def BM.tks (l : List Bool) (t : Nat) : Int × Int := (BM.sgn (BM.tku l t).1, (BM.tku l t).2)
theorem BM.tku_bad {l : List Bool} {t : Nat} (h : (BM.tku l t).2 ≠ 0) : (BM.tku l t).1 = 0 := by
  unfold BM.tku at *
  split
  · rfl
  · split
    · rfl
    · rename_i h1 h2
      rw [if_neg h1, if_neg h2] at h
      exact absurd rfl h

theorem signed_c (w : World) (v : Int) (h1 : 0 ≤ v) (h2 : v ≤ 2147483647) : Calls Try.prog 43 #[.int .i64 v] w fun e w' => e = .returned (.int .i64 (BM.sgn v)) ∧ w' = w := by
  unfold BM.sgn
  have e1 : v.tmod 2 = v % 2 := Int.tmod_eq_emod_of_nonneg h1
  have e2 : (v + 1).tdiv 2 = (v + 1) / 2 := Int.tdiv_eq_ediv_of_nonneg (by omega)
  have e3 : (-v).tdiv 2 = -(v / 2) := by rw [Int.neg_tdiv, Int.tdiv_eq_ediv_of_nonneg h1]
  by_cases hb : v % 2 = 1
  · rw [if_pos hb]
    have hd : (v.tmod 2 == 1) = true := by rw [e1, hb]; rfl
    have hr : -9223372036854775808 ≤ (v + 1) / 2 ∧ (v + 1) / 2 ≤ 9223372036854775807 := by omega
    go_enter Try.func43, Try.ntmps43
    go_wp2
    go_ret
    exact ⟨by simp, rfl⟩
  · rw [if_neg hb]
    have hd : (v.tmod 2 == 1) = false := by rw [e1]; simpa using hb
    have hr : -9223372036854775808 ≤ -(v / 2) ∧ -(v / 2) ≤ 9223372036854775807 := by omega
    go_enter Try.func43, Try.ntmps43
    go_wp2
    go_ret
    exact ⟨by simp, rfl⟩

theorem takes_nil (w : World) : Calls Try.prog 27 #[.pointer none] w fun e w' => e = .returned (.tuple #[.int .i64 0, .int .i64 1]) ∧ w' = w := by
  go_enter Try.func27, Try.ntmps27
  go_wp2_with fail
  refine (takeu_nil _).mono ?_
  rintro e w1 ⟨rfl, rfl⟩
  go_wp2
  go_ret2
  exact ⟨rfl, rfl⟩

set_option maxHeartbeats 400000 in
theorem takes_c (w : World) (base g : Nat) (A : Option Addr) (c : Nat) (p : List Nat) (t : Nat) (h : Rd w base g A c p t) (hp : p.length < 1099511627776) :
    Calls Try.prog 27 #[.pointer (some ⟨g, 0, none⟩)] w fun e w' =>
      e = .returned (.tuple #[.int .i64 (BM.tks (BM.unpk p) t).1, .int .i64 (BM.tks (BM.unpk p) t).2]) ∧ Rd w' base g A c p (BM.mvu (BM.unpk p) t) ∧ Touch w w' (fun k => k = g) := by
  have hb := BM.tku_bounds (BM.unpk p) t
  have hz := @BM.tku_bad (BM.unpk p) t
  have hc := takeu_c w base g A c p t h hp
  have Hc := Lib.hid hc; have Hz := Lib.hid hz
  clear hc h hz
  unfold BM.tks
  generalize BM.mvu (BM.unpk p) t = m at *
  generalize BM.tku (BM.unpk p) t = q at *
  obtain ⟨v, x⟩ := q
  simp only at *
  by_cases hx : x = 0
  · subst hx
    have hs := signed_c
    clear Hz
    go_enter Try.func27, Try.ntmps27
    go_wp2_with fail
    refine Hc.out.mono ?_
    rintro e w1 ⟨rfl, hR, hT⟩
    have HR := Lib.hid hR; have HT := Lib.hid hT
    clear hR hT
    go_wp2_with fail
    refine (signed_c _ v hb.1 hb.2.1).mono ?_
    rintro e w2 ⟨rfl, rfl⟩
    go_wp2
    go_ret2
    exact ⟨rfl, HR.out, HT.out⟩
  · obtain rfl : v = 0 := Hz.out hx
    have hd : (x != 0) = true := by simpa using hx
    have Hs := Lib.hid (show BM.sgn 0 = 0 from rfl)
    clear Hz hx
    go_enter Try.func27, Try.ntmps27
    go_wp2_with fail
    refine Hc.out.mono ?_
    rintro e w1 ⟨rfl, hR, hT⟩
    have HR := Lib.hid hR; have HT := Lib.hid hT
    clear hR hT
    go_wp2
    go_ret2
    exact ⟨by rw [Hs.out]; rfl, HR.out, HT.out⟩
end Go.Proofs.Ytodolejhdellbaa
