/- Readers: NewReader, Left, At, Take. -/
import Derived.Test.YtodolejhdellbaaBitC
import Derived.Test.YtodolejhdellbaaBitM2
import Derived.Test.YtodolejhdellbaaBitShelf
import Derived.Lib.BitFns
import Derived.BigGuard
import Derived.BigQuiet
import Derived.Deep.QuietTactic
namespace Go.Proofs.Ytodolejhdellbaa
open Go.RowKit

/-- block g is a reader of the bytes p, at A, that has taken t bits -/
structure Rd (w : World) (base g : Nat) (A : Option Addr) (c : Nat) (p : List Nat) (t : Nat) : Prop where
  from_ : base ≤ g
  cel : Cel w g 63 #[.slice A p.length c, .int .i64 (t : Int), .int .i64 (BM.cnt p : Int)]
  own : w.ownsRow base 5 1 (.slice A p.length c) p.length (by8 p)
  good : BM.Good p
  taken : t ≤ BM.cnt p

theorem Rd.drewN {w : World} {base g : Nat} {A : Option Addr} {c : Nat} {p : List Nat} {t : Nat} (h : Rd w base g A c p t) (n : Nat) : Rd (w.drewN n) base g A c p t := ⟨h.from_, h.cel, h.own, h.good, h.taken⟩

theorem left_c (w : World) (base g : Nat) (A : Option Addr) (c : Nat) (p : List Nat) (t : Nat) (h : Rd w base g A c p t) (hp : p.length < 1099511627776) :
    Calls Try.prog 32 #[.pointer (some ⟨g, 0, none⟩)] w fun e w' => e = .returned (.int .i64 ((BM.cnt p - t : Nat) : Int)) ∧ ∃ n, w' = w.drewN n := by
  have c1 := h.cel.cell 1
  have c2 := h.cel.cell 2
  simp at c1 c2
  have hc := h.good.cnt_lt
  have ht := h.taken
  have H := Lib.hid h
  clear h
  have hs : ((BM.cnt p - t : Nat) : Int) = (BM.cnt p : Int) - (t : Int) := by omega
  rw [hs]
  clear hs
  generalize BM.cnt p = n at *
  go_enter Try.func32, Try.ntmps32
  go_wp2_with fail
  go_quiet (fail)
  go_wp2
  go_ret
  exact ⟨rfl, _, rfl⟩
theorem at_c (w : World) (base g : Nat) (A : Option Addr) (c : Nat) (p : List Nat) (t : Nat) (h : Rd w base g A c p t) :
    Calls Try.prog 31 #[.pointer (some ⟨g, 0, none⟩)] w fun e w' => e = .returned (.int .i64 (t : Int)) ∧ w = w' := by
  have c1 := h.cel.cell 1
  simp at c1
  have H := Lib.hid h
  clear h
  go_enter Try.func31, Try.ntmps31
  go_wp2
  go_ret
  exact ⟨rfl, rfl⟩

theorem take_arg (w : World) (g : Nat) (n : Int) (hn : n < 0 ∨ 32 < n) :
    Calls Try.prog 45 #[.pointer (some ⟨g, 0, none⟩), .int .i64 n] w fun e w' => e = .returned (.tuple #[.int .u32 0, .int .i64 1]) ∧ w = w' := by
  rcases hn with hn | hn
  all_goals
    go_enter Try.func45, Try.ntmps45
    go_wp2
    go_ret2
    exact ⟨rfl, rfl⟩

set_option maxHeartbeats 400000 in
theorem take_short (w : World) (base g : Nat) (A : Option Addr) (c : Nat) (p : List Nat) (t n : Nat) (h : Rd w base g A c p t) (hp : p.length < 1099511627776) (hn : n ≤ 32) (hs : BM.cnt p - t < n) :
    Calls Try.prog 45 #[.pointer (some ⟨g, 0, none⟩), .int .i64 (n : Int)] w fun e w' => e = .returned (.tuple #[.int .u32 0, .int .i64 4]) ∧ ∃ k, w' = w.drewN k := by
  have hc := h.good.cnt_lt
  have H := Lib.hid h
  clear h
  go_enter Try.func45, Try.ntmps45
  go_wp2_with fail
  refine (left_c _ base g A c p t H.out hp).mono ?_
  rintro e w1 ⟨rfl, k, rfl⟩
  go_wp2
  go_ret2
  exact ⟨rfl, _, rfl⟩

theorem step_val (V y j : Nat) (hV : V < 2147483648) (hy : y < 256) :
    bits .or .u32 ((V : Int) * 2 % 4294967296) (bits .and .u8 ((y : Int) / 2 ^ j) 1 % 4294967296) = ((2 * V + (y.testBit j).toNat : Nat) : Int) := by
  have e1 : ((V : Int) * 2 % 4294967296) = ((2 * V : Nat) : Int) := by omega
  have e2 : ((y : Int) / 2 ^ j) = ((y / 2 ^ j : Nat) : Int) := by simp
  have hlt : y / 2 ^ j < 256 := Nat.lt_of_le_of_lt (Nat.div_le_self _ _) hy
  rw [e1, e2, show (1 : Int) = ((1 : Nat) : Int) from rfl, u8_and_nat _ _ hlt (by decide), nat_mask1, BM.bit_nat]
  have hb : ∀ b : Bool, ((b.toNat : Nat) : Int) % 4294967296 = (b.toNat : Int) := by decide
  have h2 : (y.testBit j).toNat < 2 := by cases y.testBit j <;> decide
  rw [hb, u32_or_nat _ _ (by omega) (by omega), nat_join 1 (2 * V) _ (by omega) (by omega)]

theorem Rd.step {w : World} {base g : Nat} {A : Option Addr} {c : Nat} {p : List Nat} {t n : Nat} {x : Value} (h : Rd w base g A c p t) (hn : t + 1 ≤ BM.cnt p) (hx : x = .int .i64 ((t + 1 : Nat) : Int)) :
    Rd ((w.drewN n).setCell ⟨g, 1, none⟩ x) base g A c p (t + 1) ∧ Touch w ((w.drewN n).setCell ⟨g, 1, none⟩ x) (fun k => k = g) := by
  have t1 : Touch w ((w.drewN n).setCell ⟨g, 1, none⟩ x) (fun k => k = g) := Touch.store (S := fun k => k = g) ((Touch.refl _ _).drewN n) (p := ⟨g, 1, none⟩) (.inl rfl) x
  refine ⟨⟨h.from_, ?_, own_kept h.own t1 (fun i hi e => ?_), h.good, hn⟩, t1⟩
  · subst hx
    have c1 := Cel.store (w := w.drewN n) h.cel 1 (.int .i64 ((t + 1 : Nat) : Int))
    simpa using c1
  · subst e
    exact own_apart h.own h.cel (by decide) hi

set_option maxHeartbeats 800000 in
theorem take_ok (w : World) (base g : Nat) (A : Option Addr) (c : Nat) (p : List Nat) (t n : Nat) (h : Rd w base g A c p t) (hp : p.length < 1099511627776) (hn : n ≤ 32) (hs : n ≤ BM.cnt p - t) :
    Calls Try.prog 45 #[.pointer (some ⟨g, 0, none⟩), .int .i64 (n : Int)] w fun e w' =>
      e = .returned (.tuple #[.int .u32 (BM.num (BM.part (BM.unpk p) t n) : Int), .int .i64 0]) ∧ Rd w' base g A c p (t + n) ∧ Touch w w' (fun k => k = g) := by
  have hc := h.good.cnt_lt
  have ht := h.taken
  have H := Lib.hid h
  clear h
  go_enter Try.func45, Try.ntmps45
  go_wp2_with fail
  refine (left_c _ base g A c p t H.out hp).mono ?_
  rintro e w1 ⟨rfl, k0, rfl⟩
  go_wp2_with fail
  go_loopw [6, 23] (fun v i wr => ∃ k : Nat, k ≤ n ∧ i = .int .i64 (k : Int) ∧ v = .int .u32 (BM.num (BM.part (BM.unpk p) t k) : Int) ∧ Rd wr base g A c p (t + k) ∧ Touch w wr (fun k => k = g)) (fun _ i _ => n - (intOf i).toNat)
  case atStart => exact ⟨0, Nat.zero_le _, rfl, by rw [BM.part_zero]; rfl, H.out.drewN _, (Touch.refl _ _).drewN _⟩
  case round =>
    obtain ⟨k, hk, rfl, rfl, hR, hT⟩ := hrel
    have HR := Lib.hid hR
    have HT := Lib.hid hT
    have hnl := BM.num_lt (BM.part (BM.unpk p) t k)
    have hpl := BM.length_part (BM.unpk p) t k
    by_cases hlt : k < n
    · have hq : (t + k) / 8 < p.length := by omega
      obtain ⟨gr, cap, hv, hbg, hltg, hcap, hmax, hcell, hfree⟩ := own_some hR.own (by omega)
      simp only [Value.slice.injEq, true_and] at hv
      obtain ⟨rfl, rfl⟩ := hv
      have d0 := hR.cel.cell 0
      have d1 := hR.cel.cell 1
      have e1 := hR.cel.free 1
      simp at d0 d1
      have d2 := hcell ((t + k) / 8) (by omega)
      have e2 : (by8 p)[(t + k) / 8]? = some (.int .u8 ((p.getD ((t + k) / 8) 0 : Nat) : Int)) := by
        unfold by8; rw [List.getElem?_map, List.getElem?_eq_getElem hq]; simp [List.getD, hq]
      rw [e2] at d2
      have hy := BM.getD_byte hR.good.byte ((t + k) / 8)
      have hstep := BM.part_succ (BM.unpk p) t k (BM.pbit p (t + k)) (BM.unpk_get p (t + k) (by omega))
      have hbit : BM.pbit p (t + k) = (p.getD ((t + k) / 8) 0).testBit (7 - (t + k) % 8) := rfl
      generalize p.getD ((t + k) / 8) 0 = y at *
      have Hb := Lib.hid hbit
      have Hs := Lib.hid hstep
      clear hbit hstep hcell hfree e2 hR hT
      go_wp2_with fail
      go_quiet (fail)
      go_wp2
      go_roundw
      case rel =>
        have hV : BM.num (BM.part (BM.unpk p) t k) < 2147483648 := by
          have : 2 ^ (BM.part (BM.unpk p) t k).length ≤ 2 ^ 31 := Nat.pow_le_pow_right (by decide) (by omega)
          omega
        have hst := HR.out.step (n := nq) (x := .int .i64 ((t : Int) + (k : Int) + 1)) (by omega) (by congr 1)
        refine ⟨k + 1, by omega, by go_num, ?_, hst.1, HT.out.trans hst.2 (fun i hi => .inl hi)⟩
        rw [step_val _ _ _ hV hy, Hs.out, BM.num_snoc, Hb.out]
      case measure => simp [intOf]; omega
    · obtain rfl : k = n := by omega
      go_wp2
      go_ret2
      exact ⟨rfl, HR.out, HT.out⟩

theorem tz_lib : ∀ x : Fin 256, x.val ≠ 0 → Lib.trailingZeros8 x.val = BM.tz x.val := by decide +kernel

theorem newr_form (w : World) (v : Value) (p : List Nat) (h : Sl w v p) (hp : p.length < 1099511627776) (hbad : p.length = 0 ∨ p.getD (p.length - 1) 0 = 0) :
    Calls Try.prog 25 #[v] w fun e w' => e = .returned (.tuple #[.pointer none, .int .i64 3]) ∧ w = w' := by
  by_cases h0 : p.length = 0
  · obtain rfl := List.eq_nil_of_length_eq_zero h0
    have hv : ∃ A c, v = .slice A 0 c := h.len
    obtain ⟨A, c, rfl⟩ := hv
    clear h h0 hbad
    go_enter Try.func25, Try.ntmps25
    go_wp2
    go_ret2
    exact ⟨rfl, rfl⟩
  · have hl : p.getD (p.length - 1) 0 = 0 := by rcases hbad with e | e; exact absurd e h0; exact e
    rcases h with ⟨rfl, rfl⟩ | ⟨_, _, _, rfl⟩ | ⟨g, o, cap, rfl, hcap, hlt, hcell⟩
    · simp at h0
    · simp at h0
    · have hc : w.cell? ⟨g, o + (p.length - 1), none⟩ = some (.int .u8 0) := by
        have := Sl.at_ (w := w) (n := p.length) (cap := cap) (bs := p) (.inr (.inr ⟨g, o, cap, rfl, hcap, hlt, hcell⟩)) (p.length - 1) (by omega)
        rw [hl] at this
        exact this
      have hlen : 0 < p.length := by omega
      clear hcell hbad hl
      have hz : (((p.length : Nat) : Int) == 0) = false := beq_eq_false_iff_ne.2 (by omega)
      have hz2 : (p.length = 0) = False := eq_false (by omega)
      generalize p.length = n at *
      go_enter Try.func25, Try.ntmps25
      go_wp2
      go_ret2
      exact ⟨rfl, rfl⟩

set_option maxHeartbeats 400000 in
theorem newr_ok (w : World) (v : Value) (p : List Nat) (h : Sl w v p) (hp : p.length < 1099511627776) (hgood : BM.Good p) :
    Calls Try.prog 25 #[v] w fun e w' => ∃ g A c, e = .returned (.tuple #[.pointer (some ⟨g, 0, none⟩), .int .i64 0]) ∧ Rd w' w.heap.size g A c p 0 ∧ Touch w w' (fun _ => False) := by
  have hs := hgood.some_
  have H := Lib.hid h
  rcases h with ⟨rfl, rfl⟩ | ⟨_, _, _, rfl⟩ | ⟨g, o, cap, rfl, hcap, hlt, hcell⟩
  · simp at hs
  · simp at hs
  · have hc := Sl.at_ (w := w) (n := p.length) (cap := cap) (bs := p) (.inr (.inr ⟨g, o, cap, rfl, hcap, hlt, hcell⟩)) (p.length - 1) (by omega)
    have hy := BM.getD_byte hgood.byte (p.length - 1)
    have hl := hgood.last
    have htz := tz_lib ⟨_, hy⟩ hl
    have hcnt := hgood.cnt_eq
    have htl := hgood.tz
    simp only at htz
    generalize p.getD (p.length - 1) 0 = y at *
    have hyz : ((y : Int) == 0) = false := beq_eq_false_iff_ne.2 (by omega)
    have hz : (((p.length : Nat) : Int) == 0) = false := beq_eq_false_iff_ne.2 (by omega)
    have hz2 : (p.length = 0) = False := eq_false (by omega)
    have Htz := Lib.hid htz
    have Hg := Lib.hid hgood
    have Hl := Lib.hid hcnt
    clear hcell htz hgood hl hcnt
    go_enter Try.func25, Try.ntmps25
    go_wp2_with fail
    refine (Try.bits_TrailingZeros8 _ _ (by omega) (by omega)).mono ?_
    rintro e w' ⟨rfl, rfl⟩
    rw [Int.toNat_natCast, Htz.out]
    generalize BM.tz y = z at *
    go_wp2_with fail
    refine (clone_c _ _ p H.out (by omega)).mono ?_
    rintro e w1 ⟨A, c, rfl, ho, ht⟩
    have Ho := Lib.hid ho
    have Ht := Lib.hid ht
    clear ho ht
    go_wp2
    go_ret2
    refine ⟨w1.heap.size, A, c, rfl, ⟨Ht.out.size, ?_, Ho.out.alloc _, Hg.out, Nat.zero_le _⟩, Ht.out.alloc _⟩
    have e1 : (8 * (p.length : Int) - (1 + (z : Int))) = (BM.cnt p : Int) := by have := Hl.out; omega
    rw [e1]
    exact Cel.made _ _ _
end Go.Proofs.Ytodolejhdellbaa
