/- The law BitioReads as a contract. -/
import Derived.Test.YtmogpacbfgiccaaBitT
namespace Go.Proofs.Ytmogpacbfgiccaa
open Go.RowKit

/-- v is a slice of ints that reads as zs, below block B -/
def Il (w : World) (B : Nat) (v : Value) (zs : List Int) : Prop :=
  (∀ z ∈ zs, -9223372036854775808 ≤ z ∧ z ≤ 9223372036854775807) ∧
  ((∃ A c, v = .slice A 0 c ∧ zs = []) ∨ ∃ g o cap, v = .slice (some ⟨g, o, none⟩) zs.length cap ∧ zs.length ≤ cap ∧ g < B ∧ ∀ k z, zs[k]? = some z → w.cell? ⟨g, o + k, none⟩ = some (.int .i64 z))
theorem Il.to {w w' : World} {B : Nat} {v : Value} {zs : List Int} {S : Nat → Prop} (h : Il w B v zs) (k : Touch w w' S) (hB : B ≤ w.heap.size) (hS : ∀ i, i < B → ¬ S i) : Il w' B v zs := by
  refine ⟨h.1, ?_⟩
  rcases h.2 with h | ⟨g, o, cap, rfl, h2, h3, h4⟩
  · exact .inl h
  · exact .inr ⟨g, o, cap, rfl, h2, h3, fun j q hq => (k.cell (p := ⟨g, o + j, none⟩) (by show g < _; omega) (hS g h3)).trans (h4 j q hq)⟩
theorem Il.len {w : World} {B : Nat} {v : Value} {zs : List Int} (h : Il w B v zs) : ∃ A c, v = .slice A zs.length c := by
  rcases h.2 with ⟨_, _, rfl, rfl⟩ | ⟨g, o, cap, rfl, _⟩
  · exact ⟨_, _, rfl⟩
  · exact ⟨_, _, rfl⟩
theorem Il.at_ {w : World} {B n c : Nat} {A : Option Addr} {zs : List Int} (h : Il w B (.slice A n c) zs) (k : Nat) (hk : k < zs.length) :
    ∃ g o m, A = some ⟨g, o, none⟩ ∧ g < B ∧ -9223372036854775808 ≤ m ∧ m ≤ 9223372036854775807 ∧ w.cell? ⟨g, o + k, none⟩ = some (.int .i64 m) := by
  have hq : zs[k]? = some zs[k] := List.getElem?_eq_getElem hk
  have hm := h.1 _ (List.getElem_mem hk)
  rcases h.2 with ⟨_, _, _, rfl⟩ | ⟨g, o, cap, hv, _, h3, h4⟩
  · simp at hk
  · injection hv with hv
    subst hv
    exact ⟨g, o, zs[k], rfl, h3, hm.1, hm.2, h4 k _ hq⟩

/-- the two readers at one place -/
structure Two (w : World) (B gr : Nat) (A : Option Addr) (c gs : Nat) (A' : Option Addr) (c' : Nat) (p : List Nat) (t : Nat) : Prop where
  rd : Rd w B gr A c p t
  rr : Rr w B gs A' c' (BM.unpk p) t
  far : ∀ i, (Value.slice A' (BM.unpk p).length c').ownBlock = some i → i ≠ gr
  low : ∀ i, (Value.slice A p.length c).ownBlock = some i → i ≠ gs
theorem Two.ne {w : World} {B gr : Nat} {A : Option Addr} {c gs : Nat} {A' : Option Addr} {c' : Nat} {p : List Nat} {t : Nat} (h : Two w B gr A c gs A' c' p t) : gr ≠ gs := Cel.apart h.rd.cel h.rr.cel (by decide)
theorem Two.kept0 {w w' : World} {B gr : Nat} {A : Option Addr} {c gs : Nat} {A' : Option Addr} {c' : Nat} {p : List Nat} {t : Nat} (h : Two w B gr A c gs A' c' p t) (k : Touch w w' (fun _ => False)) : Two w' B gr A c gs A' c' p t :=
  ⟨h.rd.kept0 k, h.rr.kept0 k, h.far, h.low⟩

theorem rleft_q (w : World) (base g : Nat) (A : Option Addr) (c : Nat) (p : List Nat) (t : Nat) (h : Rr w base g A c (BM.unpk p) t) (hl : (BM.unpk p).length < 1099511627776) :
    Calls Try.prog 19 #[.pointer (some ⟨g, 0, none⟩)] w fun e w' => e = .returned (.int .i64 ((BM.cnt p - t : Nat) : Int)) ∧ ∃ n, w' = w.drewN n := by
  have := rleft_c w base g A c (BM.unpk p) t h hl
  rwa [BM.length_unpk] at this
theorem Two.drewN {w : World} {B gr : Nat} {A : Option Addr} {c gs : Nat} {A' : Option Addr} {c' : Nat} {p : List Nat} {t : Nat} (h : Two w B gr A c gs A' c' p t) (n : Nat) : Two (w.drewN n) B gr A c gs A' c' p t := h.kept0 ((Touch.refl _ _).drewN _)
/-- what Take answers -/
def tk (p : List Nat) (t : Nat) (m : Int) : Nat × Int := if m < 0 ∨ 32 < m then (0, 1) else if m.toNat ≤ BM.cnt p - t then (BM.num (BM.part (BM.unpk p) t m.toNat), 0) else (0, 4)
def mv (p : List Nat) (t : Nat) (m : Int) : Nat := if m < 0 ∨ 32 < m then t else if m.toNat ≤ BM.cnt p - t then t + m.toNat else t
theorem take_c (w : World) (base g : Nat) (A : Option Addr) (c : Nat) (p : List Nat) (t : Nat) (m : Int) (h : Rd w base g A c p t) (hp : p.length < 1099511627776) :
    Calls Try.prog 21 #[.pointer (some ⟨g, 0, none⟩), .int .i64 m] w fun e w' => e = .returned (.tuple #[.int .u32 ((tk p t m).1 : Int), .int .i64 (tk p t m).2]) ∧ Rd w' base g A c p (mv p t m) ∧ Touch w w' (fun k => k = g) := by
  unfold tk mv
  by_cases h1 : m < 0 ∨ 32 < m
  · rw [if_pos h1, if_pos h1]
    exact (take_arg w g m h1).mono fun _ _ ⟨a, b⟩ => ⟨a, by subst b; exact h, by subst b; exact Touch.refl _ _⟩
  · rw [if_neg h1, if_neg h1]
    obtain ⟨n, rfl⟩ : ∃ n : Nat, m = (n : Int) := ⟨m.toNat, by omega⟩
    rw [Int.toNat_natCast]
    by_cases h2 : n ≤ BM.cnt p - t
    · rw [if_pos h2, if_pos h2]
      exact take_ok w base g A c p t n h hp (by omega) h2
    · rw [if_neg h2, if_neg h2]
      refine (take_short w base g A c p t n h hp (by omega) (by omega)).mono fun _ _ ⟨a, k, b⟩ => ⟨a, ?_, ?_⟩
      · subst b; exact h.drewN _
      · subst b; exact (Touch.refl _ _).drewN _
theorem rtake_c (w : World) (base g : Nat) (A : Option Addr) (c : Nat) (p : List Nat) (t : Nat) (m : Int) (h : Rr w base g A c (BM.unpk p) t) (hp : (BM.unpk p).length < 1099511627776) :
    Calls Try.prog 22 #[.pointer (some ⟨g, 0, none⟩), .int .i64 m] w fun e w' => e = .returned (.tuple #[.int .u32 ((tk p t m).1 : Int), .int .i64 (tk p t m).2]) ∧ Rr w' base g A c (BM.unpk p) (mv p t m) ∧ Touch w w' (fun k => k = g) := by
  unfold tk mv
  have hlu := BM.length_unpk p
  by_cases h1 : m < 0 ∨ 32 < m
  · rw [if_pos h1, if_pos h1]
    exact (rtake_arg w g m h1).mono fun _ _ ⟨a, b⟩ => ⟨a, by subst b; exact h, by subst b; exact Touch.refl _ _⟩
  · rw [if_neg h1, if_neg h1]
    obtain ⟨n, rfl⟩ : ∃ n : Nat, m = (n : Int) := ⟨m.toNat, by omega⟩
    rw [Int.toNat_natCast]
    by_cases h2 : n ≤ BM.cnt p - t
    · rw [if_pos h2, if_pos h2]
      exact rtake_ok w base g A c (BM.unpk p) t n h hp (by omega) (by omega)
    · rw [if_neg h2, if_neg h2]
      refine (rtake_short w base g A c (BM.unpk p) t n h hp (by omega) (by omega)).mono fun _ _ ⟨a, k, b⟩ => ⟨a, ?_, ?_⟩
      · subst b; exact h.kept0 ((Touch.refl _ _).drewN _)
      · subst b; exact (Touch.refl _ _).drewN _

set_option linter.unusedSimpArgs false in
set_option maxHeartbeats 2000000 in
theorem lawReads_c (W : World) (v vt : Value) (p : List Nat) (hS : Sl W v p) (hby : ∀ x ∈ p, x < 256) (zs : List Int) (hZ : Il W W.heap.size vt zs) :
    Calls Try.prog 4 #[v, vt] W fun e w' => e = .returned (.bool true) ∧ Touch W w' (fun _ => False) := by
  obtain ⟨A0, c0, rfl⟩ := hS.len
  obtain ⟨B0, d0, rfl⟩ := hZ.len
  have HS := Lib.hid hS; have HZ := Lib.hid hZ
  clear hS hZ
  generalize hN : p.length = N at *
  generalize hM : zs.length = M at *
  have HN := Lib.hid hN; have HM := Lib.hid hM
  clear hN hM
  by_cases hbig : 1000 < N ∨ 1000 < M
  · by_cases h1 : 1000 < N
    · clear hbig
      go_enter Try.func4, Try.ntmps4
      go_wp2
      go_ret
      exact ⟨rfl, Touch.refl _ _⟩
    · have h2 : 1000 < M := by omega
      clear hbig
      have hd1 : decide (1000 < (N : Int)) = false := by simp; omega
      go_enter Try.func4, Try.ntmps4
      go_wp2
      go_ret
      exact ⟨rfl, Touch.refl _ _⟩
  · have ha : N ≤ 1000 := by omega
    have hb : M ≤ 1000 := by omega
    clear hbig
    by_cases hbad : p.length = 0 ∨ p.getD (p.length - 1) 0 = 0
    · have HB := Lib.hid hbad
      clear hbad
      go_enter Try.func4, Try.ntmps4
      go_wp2_with fail
      refine (newr_form _ _ p HS.out (by rw [HN.out]; omega) HB.out).mono ?_
      rintro e w1 ⟨rfl, rfl⟩
      go_wp2_with fail
      refine (ropen_form _ _ p HS.out (by rw [HN.out]; omega) HB.out).mono ?_
      rintro e w1 ⟨rfl, rfl⟩
      go_wp2_with fail
      refine (awake_c _).mono ?_
      rintro e w7 ⟨rfl, ht7⟩
      have Ht7 := Lib.hid ht7
      clear ht7
      go_wp2
      go_ret
      exact ⟨rfl, Ht7.out⟩
    · have hgood : BM.Good p := ⟨hby, by omega, by omega⟩
      have hcl := hgood.cnt_lt
      rw [HN.out] at hcl
      have hlu := BM.length_unpk p
      have HG := Lib.hid hgood; have HLu := Lib.hid hlu
      clear hbad hgood hlu
      go_enter Try.func4, Try.ntmps4
      go_wp2_with fail
      refine (newr_ok _ _ p HS.out (by rw [HN.out]; omega) HG.out).mono ?_
      rintro e w1 ⟨gr, A1, c1, rfl, hR1, hT1⟩
      have HR1 := Lib.hid hR1; have HT1 := Lib.hid hT1
      have hgr1 := hR1.cel.lt
      have hgr0 := hR1.from_
      clear hR1 hT1
      go_wp2_with fail
      refine (ropen_ok _ _ p (HS.out.to HT1.out (fun _ _ e => e)) (by rw [HN.out]; omega) HG.out).mono ?_
      rintro e w2 ⟨gs, A2, c2, rfl, hR2, hT2⟩
      have hsz1 := HT1.out.size
      have hTwo : Two w2 W.heap.size gr A1 c1 gs A2 c2 p 0 := by
        have hf := hR2.from_
        refine ⟨HR1.out.kept0 hT2, ⟨by omega, hR2.cel, hR2.sl, fun i hi => ⟨by have := (hR2.new i hi).1; omega, (hR2.new i hi).2⟩, hR2.taken⟩, fun i hi => by have := (hR2.new i hi).1; omega, fun i hi => by have := (HR1.out.own.lt i hi).2; omega⟩
      have HTw := Lib.hid hTwo; have HT2 := Lib.hid (HT1.out.trans hT2 (fun _ e => e.elim))
      clear hTwo hR2 hT2
      go_wp2_with fail
      go_loopw [9] (fun i wr => ∃ k t, k ≤ M ∧ i = .int .i64 (k : Int) ∧ Two wr W.heap.size gr A1 c1 gs A2 c2 p t ∧ Touch W wr (fun _ => False)) (fun i _ => M - (intOf i).toNat)
      case atStart => exact ⟨0, 0, by omega, rfl, HTw.out, HT2.out⟩
      case round =>
        obtain ⟨k, t, hk, rfl, hTw, hT⟩ := hrel
        have HTk := Lib.hid hTw; have HT := Lib.hid hT
        have hszk := hT.size
        have e0 := hTw.rr.cel.cell 1
        simp at e0
        clear hTw hT
        by_cases hlt : k < M
        · go_wp2_with fail
          go_quiet ((first | (go_at_call 18; first | exact Calls.quiet_of (left_c _ _ gr _ _ _ _ (HTk.out.drewN _).rd (by rw [HN.out]; omega)) | exact Calls.quiet_of (left_c _ _ gr _ _ _ _ HTk.out.rd (by rw [HN.out]; omega))) | (go_at_call 19; first | exact Calls.quiet_of (rleft_q _ _ gs _ _ _ _ (HTk.out.drewN _).rr (by rw [HLu.out]; omega)) | exact Calls.quiet_of (rleft_q _ _ gs _ _ _ _ HTk.out.rr (by rw [HLu.out]; omega))) | (go_at_call 20; first | exact Calls.quiet_of_same ((at_c _ _ gr _ _ _ _ (HTk.out.drewN _).rd).mono fun _ _ ⟨a, b⟩ => ⟨a, b.symm⟩) | exact Calls.quiet_of_same ((at_c _ _ gr _ _ _ _ HTk.out.rd).mono fun _ _ ⟨a, b⟩ => ⟨a, b.symm⟩))))
          have hZ1 := HZ.out.to HT.out (Nat.le_refl _) (fun _ _ e => e)
          obtain ⟨go, o, m, rfl, hgo, hm1, hm2, hc⟩ := hZ1.at_ k (by rw [HM.out]; exact hlt)
          have hcq : (wr.drewN nq).cell? ⟨go, o + k, none⟩ = some (.int .i64 m) := hc
          have HTq := Lib.hid (HTk.out.drewN nq); have Hq := Lib.hid (HT.out.drewN nq)
          have hszq : W.heap.size ≤ (wr.drewN nq).heap.size := hszk
          clear hZ1 hc e0
          generalize wr.drewN nq = wq at *
          clear hszk
          go_wp2_with fail
          refine (take_c _ _ gr _ _ _ t m HTq.out.rd (by rw [HN.out]; omega)).mono ?_
          rintro e w3 ⟨rfl, hR3, ht3⟩
          have hgr2 := HTq.out.rd.from_
          have hne := HTq.out.ne
          have hc3 : w3.cell? ⟨go, o + k, none⟩ = some (.int .i64 m) := (ht3.cell (p := ⟨go, o + k, none⟩) (by show go < wq.heap.size; omega) (by show ¬ go = gr; omega)).trans hcq
          have hrr3 : Rr w3 W.heap.size gs A2 c2 (BM.unpk p) t := HTq.out.rr.kept ht3 (fun e => hne e.symm) (fun i hi e => HTq.out.far i hi e)
          have hT3 : Touch W w3 (fun _ => False) := touch_new Hq.out ht3 (fun i hi => by omega)
          have HR3 := Lib.hid hR3; have HQ3 := Lib.hid hrr3; have HT3 := Lib.hid hT3
          clear hR3 hrr3 hT3 ht3 hcq
          go_wp2_with fail
          refine (rtake_c _ _ gs _ _ p t m HQ3.out (by rw [HLu.out]; omega)).mono ?_
          rintro e w4 ⟨rfl, hR4, ht4⟩
          have hf2 := HTq.out.rr.from_
          have hrd4 : Rd w4 W.heap.size gr A1 c1 p (mv p t m) := by
            have h3 := HR3.out
            exact ⟨h3.from_, h3.cel.kept ht4 hne, own_kept h3.own ht4 (fun i hi e => HTq.out.low i hi e), h3.good, h3.taken⟩
          have hT4 : Touch W w4 (fun _ => False) := touch_new HT3.out ht4 (fun i hi => by omega)
          have hTw4 : Two w4 W.heap.size gr A1 c1 gs A2 c2 p (mv p t m) := ⟨hrd4, hR4, HTq.out.far, HTq.out.low⟩
          have HTw4 := Lib.hid hTw4; have HT4 := Lib.hid hT4
          clear hrd4 hT4 hTw4 hR4 ht4
          generalize tk p t m = q at *
          go_wp2_with fail
          go_roundw
          case rel => exact ⟨k + 1, _, by omega, by go_num, HTw4.out, HT4.out⟩
          case measure => simp [intOf]; omega
        · obtain rfl : k = M := by omega
          have hgsl : gs < wr.heap.size := HTk.out.rr.cel.lt
          go_wp2_with fail
          go_region_held3 (fun w' => w'.cell? ⟨gs, 1, none⟩ = some (.int .i64 (t : Int))) (first | exact k2 | exact k1 | exact k0 | exact e0) (first | (go_at_call 15; refine (awake_c _).mono ?_; rintro e w3 ⟨rfl, ht3⟩; have HT3 := Lib.hid (show Touch wr w3 (fun _ => False) by first | exact ht3 | exact ht3.undrew | exact ht3.undrewN | exact ht3.undrew.undrewN); have k0 := (HT3.out.cell (p := ⟨gs, 1, none⟩) hgsl (fun e => e)).trans e0; clear ht3) | (go_at_call 18; refine (left_c _ _ gr _ _ _ _ (HTk.out.kept0 HT3.out).rd (by rw [HN.out]; omega)).mono ?_; rintro e w4 ⟨rfl, n4, hw4⟩; have HT4 := Lib.hid (show Touch wr w4 (fun _ => False) by rw [hw4]; exact HT3.out.drewN _); have k1 := (HT4.out.cell (p := ⟨gs, 1, none⟩) hgsl (fun e => e)).trans e0; clear hw4) | (go_at_call 19; refine (rleft_q _ _ gs _ _ _ _ (HTk.out.kept0 HT4.out).rr (by rw [HLu.out]; omega)).mono ?_; rintro e w5 ⟨rfl, n5, hw5⟩; have HT5 := Lib.hid (show Touch wr w5 (fun _ => False) by rw [hw5]; exact HT4.out.drewN _); have k2 := (HT5.out.cell (p := ⟨gs, 1, none⟩) hgsl (fun e => e)).trans e0; clear hw5) | (go_at_call 20; refine (at_c _ _ gr _ _ _ _ (HTk.out.kept0 HT5.out).rd).mono ?_; rintro e w6 ⟨rfl, rfl⟩))
          go_wp2
          go_ret
          exact ⟨rfl, HT.out.trans HT5.out (fun _ e => e.elim)⟩
end Go.Proofs.Ytmogpacbfgiccaa
