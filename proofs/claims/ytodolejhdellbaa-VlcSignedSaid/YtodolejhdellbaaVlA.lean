/- The code of vlc that writes: Bits, SignedBits, PutUnsigned, PutSigned. -/
import Derived.Test.YtodolejhdellbaaVlM
import Derived.Test.YtodolejhdellbaaBitPC
import Derived.Test.YtodolejhdellbaaBitShelf
import Derived.Lib.BitFns
import Derived.BigGuard
namespace Go.Proofs.Ytodolejhdellbaa
open Go.RowKit

/-- the length of v's code -/
def BM.blen (v : Int) : Int := if 0 ≤ v ∧ v ≤ 65534 then ((BM.code v.toNat).length : Int) else 0
theorem BM.blen_no {v : Int} (h : v < 0 ∨ 65534 < v) : BM.blen v = 0 := by unfold BM.blen; rw [if_neg (by omega)]
theorem BM.blen_yes {n : Nat} (h : n ≤ 65534) : BM.blen (n : Int) = ((2 * BM.hf n + 1 : Nat) : Int) := by
  unfold BM.blen; rw [if_pos (by omega), Int.toNat_natCast, BM.length_code]

theorem vbits_len_c (w : World) (v : Int) (h1 : -9223372036854775808 ≤ v) (h2 : v ≤ 9223372036854775807) :
    Calls Try.prog 11 #[.int .i64 v] w fun e w' => e = .returned (.int .i64 (BM.blen v)) ∧ w' = w := by
  by_cases hn : v < 0
  · rw [BM.blen_no (.inl hn)]
    have hd : decide (v < 0) = true := by simpa using hn
    go_enter Try.func11, Try.ntmps11
    go_wp2
    go_ret
    exact ⟨rfl, rfl⟩
  · have hd : decide (v < 0) = false := by simp; omega
    by_cases hb : 65534 < v
    · rw [BM.blen_no (.inr hb)]
      have hd2 : decide (65534 < v) = true := by simpa using hb
      go_enter Try.func11, Try.ntmps11
      go_wp2
      go_ret
      exact ⟨rfl, rfl⟩
    · have hd2 : decide (65534 < v) = false := by simp; omega
      obtain ⟨n, rfl⟩ : ∃ n : Nat, v = (n : Int) := ⟨v.toNat, by omega⟩
      rw [BM.blen_yes (by omega)]
      have hh := BM.hf_le n (by omega)
      have hbl := BM.bitLen_hf n (by omega)
      have Hb := Lib.hid hbl
      clear hbl
      go_enter Try.func11, Try.ntmps11
      go_wp2_with fail
      refine (Try.bits_Len _ _ (by omega) (by omega)).mono ?_
      rintro e w' ⟨rfl, rfl⟩
      rw [show ((n : Int) + 1).toNat = n + 1 by omega, Hb.out]
      generalize hk : BM.hf n = k at *
      have Hk := Lib.hid hk
      clear hk
      go_wp2
      go_ret
      exact ⟨by rw [Hk.out, show ((2 * k + 1 : Nat) : Int) = 2 * ((k : Int) + 1) - 1 by omega]; rfl, rfl⟩

theorem unsigned_c (w : World) (v : Int) (h1 : -9223372036854775808 ≤ v) (h2 : v ≤ 9223372036854775807) :
    Calls Try.prog 40 #[.int .i64 v] w fun e w' => e = .returned (.int .i64 (if -32767 ≤ v ∧ v ≤ 32767 then BM.uns v else -1)) ∧ w' = w := by
  by_cases hn : v < -32767
  · rw [if_neg (by omega)]
    have hd : decide (v < -32767) = true := by simpa using hn
    go_enter Try.func40, Try.ntmps40
    go_wp2
    go_ret
    exact ⟨rfl, rfl⟩
  · have hd : decide (v < -32767) = false := by simp; omega
    by_cases hb : 32767 < v
    · rw [if_neg (by omega)]
      have hd2 : decide (32767 < v) = true := by simpa using hb
      go_enter Try.func40, Try.ntmps40
      go_wp2
      go_ret
      exact ⟨rfl, rfl⟩
    · have hd2 : decide (32767 < v) = false := by simp; omega
      rw [if_pos (by omega)]
      unfold BM.uns
      by_cases hp : 0 < v
      · rw [if_pos hp]
        have hd3 : decide (0 < v) = true := by simpa using hp
        go_enter Try.func40, Try.ntmps40
        go_wp2
        go_ret
        exact ⟨rfl, rfl⟩
      · rw [if_neg hp]
        have hd3 : decide (0 < v) = false := by simp; omega
        go_enter Try.func40, Try.ntmps40
        go_wp2
        go_ret
        exact ⟨rfl, rfl⟩

theorem putu_nil (w : World) (v : Int) : Calls Try.prog 10 #[.pointer none, .int .i64 v] w fun e w' => e = .returned (.int .i64 1) ∧ w' = w := by
  go_enter Try.func10, Try.ntmps10
  go_wp2
  go_ret
  exact ⟨rfl, rfl⟩

theorem putu_no (w : World) (g : Nat) (v : Int) (h1 : -9223372036854775808 ≤ v) (h2 : v ≤ 9223372036854775807) (hv : v < 0 ∨ 65534 < v) :
    Calls Try.prog 10 #[.pointer (some ⟨g, 0, none⟩), .int .i64 v] w fun e w' => e = .returned (.int .i64 2) ∧ w' = w := by
  have hb := BM.blen_no hv
  have Hb := Lib.hid hb
  clear hb hv
  go_enter Try.func10, Try.ntmps10
  go_wp2_with fail
  go_enter Try.func34, Try.ntmps34
  go_wp2_with fail
  refine (vbits_len_c _ v h1 h2).mono ?_
  rintro e w' ⟨rfl, rfl⟩
  rw [Hb.out]
  go_wp2
  go_ret
  exact ⟨rfl, rfl⟩

theorem putu_ok (w : World) (base g : Nat) (v : Value) (l : List Bool) (n : Nat) (h : Wr w base g v l) (hl : l.length < 1099511627000) (hn : n ≤ 65534) :
    Calls Try.prog 10 #[.pointer (some ⟨g, 0, none⟩), .int .i64 (n : Int)] w fun e w' => e = .returned (.int .i64 0) ∧ ∃ v', Grew w w' base g v v' (l ++ BM.code n) := by
  have hb := BM.blen_yes hn
  have hh := BM.hf_le n hn
  have hhi := BM.hf_hi n
  have hput : Calls Try.prog 33 #[.pointer (some ⟨g, 0, none⟩), .int .u32 ((n + 1 : Nat) : Int), .int .i64 ((2 * BM.hf n + 1 : Nat) : Int)] w (fun e w' => e = .returned (.int .i64 0) ∧ ∃ v', Grew w w' base g v v' (l ++ BM.code n)) := put_ok w base g v l (n + 1) (2 * BM.hf n + 1) h hl (by omega) (by omega) (Nat.div_eq_of_lt (Nat.lt_of_lt_of_le hhi (Nat.pow_le_pow_right (by decide) (by omega))))
  have Hb := Lib.hid hb
  have Hput := Lib.hid hput
  clear hb hput hhi h
  go_enter Try.func10, Try.ntmps10
  go_wp2_with fail
  go_enter Try.func34, Try.ntmps34
  go_wp2_with fail
  refine (vbits_len_c _ n (by omega) (by omega)).mono ?_
  rintro e w' ⟨rfl, rfl⟩
  rw [Hb.out]
  generalize BM.hf n = k at *
  go_wp2_with fail
  refine Hput.out.mono ?_
  rintro e w1 ⟨rfl, v1, hG⟩
  have HG := Lib.hid hG
  clear hG
  go_wp2
  go_wp2
  go_ret
  exact ⟨rfl, v1, HG.out⟩

/-- what PutUnsigned and PutSigned say of v, and the bits that they put -/
def BM.eu (v : Int) : Int := if 0 ≤ v ∧ v ≤ 65534 then 0 else 2
def BM.cu (v : Int) : List Bool := if 0 ≤ v ∧ v ≤ 65534 then BM.code v.toNat else []
def BM.es (v : Int) : Int := if -32767 ≤ v ∧ v ≤ 32767 then 0 else 2
def BM.cs (v : Int) : List Bool := if -32767 ≤ v ∧ v ≤ 32767 then BM.code (BM.uns v).toNat else []
theorem BM.length_cu (v : Int) : ((BM.cu v).length : Int) = BM.blen v := by
  unfold BM.cu BM.blen
  split <;> simp
theorem BM.cu_short (v : Int) : (BM.cu v).length ≤ 31 := by
  unfold BM.cu
  split
  · have := BM.hf_le v.toNat (by omega); rw [BM.length_code]; omega
  · simp
theorem BM.cu_uns (v : Int) : BM.cs v = BM.cu (if -32767 ≤ v ∧ v ≤ 32767 then BM.uns v else -1) := by
  unfold BM.cs BM.cu
  by_cases h : -32767 ≤ v ∧ v ≤ 32767
  · have := BM.uns_ge v; have := BM.uns_le v h.1 h.2
    rw [if_pos h, if_pos h, if_pos (by omega)]
  · rw [if_neg h, if_neg h, if_neg (by omega)]
theorem BM.eu_uns (v : Int) : BM.es v = BM.eu (if -32767 ≤ v ∧ v ≤ 32767 then BM.uns v else -1) := by
  unfold BM.es BM.eu
  by_cases h : -32767 ≤ v ∧ v ≤ 32767
  · have := BM.uns_ge v; have := BM.uns_le v h.1 h.2
    rw [if_pos h, if_pos h, if_pos (by omega)]
  · rw [if_neg h, if_neg h, if_neg (by omega)]
/-- the length of a signed code -/
def BM.slen (v : Int) : Int := BM.blen (if -32767 ≤ v ∧ v ≤ 32767 then BM.uns v else -1)
theorem BM.length_cs (v : Int) : ((BM.cs v).length : Int) = BM.slen v := by unfold BM.slen; rw [BM.cu_uns, BM.length_cu]
theorem BM.cs_short (v : Int) : (BM.cs v).length ≤ 31 := by rw [BM.cu_uns]; exact BM.cu_short _

theorem putu_c (w : World) (base g : Nat) (v : Value) (l : List Bool) (x : Int) (h : Wr w base g v l) (hl : l.length < 1099511627000) (h1 : -9223372036854775808 ≤ x) (h2 : x ≤ 9223372036854775807) :
    Calls Try.prog 10 #[.pointer (some ⟨g, 0, none⟩), .int .i64 x] w fun e w' => e = .returned (.int .i64 (BM.eu x)) ∧ ∃ v', Grew w w' base g v v' (l ++ BM.cu x) := by
  unfold BM.eu BM.cu
  by_cases hx : 0 ≤ x ∧ x ≤ 65534
  · rw [if_pos hx, if_pos hx]
    obtain ⟨n, rfl⟩ : ∃ n : Nat, x = (n : Int) := ⟨x.toNat, by omega⟩
    exact putu_ok w base g v l n h hl (by omega)
  · rw [if_neg hx, if_neg hx, List.append_nil]
    exact (putu_no w g x h1 h2 (by omega)).mono fun _ _ ⟨a, b⟩ => ⟨a, v, by subst b; exact ⟨h, .inl rfl, Touch.refl _ _⟩⟩
theorem uns_range (x : Int) : -9223372036854775808 ≤ (if -32767 ≤ x ∧ x ≤ 32767 then BM.uns x else -1) ∧ (if -32767 ≤ x ∧ x ≤ 32767 then BM.uns x else -1) ≤ 9223372036854775807 := by
  by_cases h : -32767 ≤ x ∧ x ≤ 32767
  · have := BM.uns_ge x; have := BM.uns_le x h.1 h.2
    rw [if_pos h]; omega
  · rw [if_neg h]; omega
theorem puts_c (w : World) (base g : Nat) (v : Value) (l : List Bool) (x : Int) (h : Wr w base g v l) (hl : l.length < 1099511627000) (h1 : -9223372036854775808 ≤ x) (h2 : x ≤ 9223372036854775807) :
    Calls Try.prog 20 #[.pointer (some ⟨g, 0, none⟩), .int .i64 x] w fun e w' => e = .returned (.int .i64 (BM.es x)) ∧ ∃ v', Grew w w' base g v v' (l ++ BM.cs x) := by
  rw [BM.cu_uns, BM.eu_uns]
  have hr := uns_range x
  have hc := unsigned_c w x h1 h2
  have Hc := Lib.hid hc
  have H := Lib.hid h
  clear hc h
  generalize (if -32767 ≤ x ∧ x ≤ 32767 then BM.uns x else -1) = y at *
  go_enter Try.func20, Try.ntmps20
  go_wp2_with fail
  refine Hc.out.mono ?_
  rintro e w' ⟨rfl, rfl⟩
  go_wp2_with fail
  refine (putu_c _ base g v l y H.out hl hr.1 hr.2).mono ?_
  rintro e w1 ⟨rfl, v1, hG⟩
  have HG := Lib.hid hG
  clear hG
  go_wp2
  go_ret
  exact ⟨rfl, v1, HG.out⟩
theorem puts_nil (w : World) (x : Int) (h1 : -9223372036854775808 ≤ x) (h2 : x ≤ 9223372036854775807) : Calls Try.prog 20 #[.pointer none, .int .i64 x] w fun e w' => e = .returned (.int .i64 1) ∧ w' = w := by
  have hc := unsigned_c w x h1 h2
  have Hc := Lib.hid hc
  clear hc
  generalize (if -32767 ≤ x ∧ x ≤ 32767 then BM.uns x else -1) = y at *
  go_enter Try.func20, Try.ntmps20
  go_wp2_with fail
  refine Hc.out.mono ?_
  rintro e w' ⟨rfl, rfl⟩
  go_wp2_with fail
  refine (putu_nil _ y).mono ?_
  rintro e w1 ⟨rfl, rfl⟩
  go_wp2
  go_ret
  exact ⟨rfl, rfl⟩
theorem slen_c (w : World) (x : Int) (h1 : -9223372036854775808 ≤ x) (h2 : x ≤ 9223372036854775807) :
    Calls Try.prog 21 #[.int .i64 x] w fun e w' => e = .returned (.int .i64 (BM.slen x)) ∧ w' = w := by
  unfold BM.slen
  have hr := uns_range x
  have hc := unsigned_c w x h1 h2
  have Hc := Lib.hid hc
  clear hc
  generalize (if -32767 ≤ x ∧ x ≤ 32767 then BM.uns x else -1) = y at *
  go_enter Try.func21, Try.ntmps21
  go_wp2_with fail
  refine Hc.out.mono ?_
  rintro e w' ⟨rfl, rfl⟩
  go_wp2_with fail
  refine (vbits_len_c _ y hr.1 hr.2).mono ?_
  rintro e w1 ⟨rfl, rfl⟩
  go_wp2
  go_ret
  exact ⟨rfl, rfl⟩
end Go.Proofs.Ytodolejhdellbaa
