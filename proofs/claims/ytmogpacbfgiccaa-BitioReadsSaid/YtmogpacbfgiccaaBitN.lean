/- 'written' of the law. -/
import Derived.Test.YtmogpacbfgiccaaBitF
import Derived.Test.YtmogpacbfgiccaaBitR
import Derived.Test.YtmogpacbfgiccaaBitG
namespace Go.Proofs.Ytmogpacbfgiccaa
open Go.RowKit

/-- v is a slice of calls of Put that reads as ops, below block B -/
def Ops (w : World) (B : Nat) (v : Value) (ops : List (Nat × Int)) : Prop :=
  (∀ q ∈ ops, q.1 < 4294967296 ∧ -9223372036854775808 ≤ q.2 ∧ q.2 ≤ 9223372036854775807) ∧
  ((∃ A c, v = .slice A 0 c ∧ ops = []) ∨ ∃ g o cap, v = .slice (some ⟨g, o, none⟩) ops.length cap ∧ ops.length ≤ cap ∧ g < B ∧ ∀ k q, ops[k]? = some q → w.cell? ⟨g, o + k * 2, none⟩ = some (.int .u32 (q.1 : Int)) ∧ w.cell? ⟨g, o + k * 2 + 1, none⟩ = some (.int .i64 q.2))

theorem Ops.to {w w' : World} {B : Nat} {v : Value} {ops : List (Nat × Int)} {S : Nat → Prop} (h : Ops w B v ops) (k : Touch w w' S) (hB : B ≤ w.heap.size) (hS : ∀ i, i < B → ¬ S i) : Ops w' B v ops := by
  refine ⟨h.1, ?_⟩
  rcases h.2 with h | ⟨g, o, cap, rfl, h2, h3, h4⟩
  · exact .inl h
  · refine .inr ⟨g, o, cap, rfl, h2, h3, fun j q hq => ?_⟩
    obtain ⟨a, b⟩ := h4 j q hq
    exact ⟨(k.cell (p := ⟨g, o + j * 2, none⟩) (by show g < _; omega) (hS g h3)).trans a, (k.cell (p := ⟨g, o + j * 2 + 1, none⟩) (by show g < _; omega) (hS g h3)).trans b⟩
theorem Ops.len {w : World} {B : Nat} {v : Value} {ops : List (Nat × Int)} (h : Ops w B v ops) : ∃ A c, v = .slice A ops.length c := by
  rcases h.2 with ⟨_, _, rfl, rfl⟩ | ⟨g, o, cap, rfl, _⟩
  · exact ⟨_, _, rfl⟩
  · exact ⟨_, _, rfl⟩
theorem Ops.at_ {w : World} {B n c : Nat} {A : Option Addr} {ops : List (Nat × Int)} (h : Ops w B (.slice A n c) ops) (k : Nat) (hk : k < ops.length) :
    ∃ g o x m, A = some ⟨g, o, none⟩ ∧ g < B ∧ ops[k]? = some (x, m) ∧ x < 4294967296 ∧ -9223372036854775808 ≤ m ∧ m ≤ 9223372036854775807 ∧ w.cell? ⟨g, o + k * 2, none⟩ = some (.int .u32 (x : Int)) ∧ w.cell? ⟨g, o + k * 2 + 1, none⟩ = some (.int .i64 m) := by
  have hq : ops[k]? = some ops[k] := List.getElem?_eq_getElem hk
  have hm := h.1 _ (List.getElem_mem hk)
  rcases h.2 with ⟨_, _, _, rfl⟩ | ⟨g, o, cap, hv, _, h3, h4⟩
  · simp at hk
  · injection hv with hv
    subst hv
    obtain ⟨a, b⟩ := h4 k _ hq
    exact ⟨g, o, ops[k].1, ops[k].2, rfl, h3, hq, hm.1, hm.2.1, hm.2.2, a, b⟩

/-- what 'written' leaves behind some of the calls -/
structure Wn (w w' : World) (base g : Nat) (v va : Value) (l : List Bool) : Prop where
  wr : Wr w' base g v l
  all : w'.ownsRow w.heap.size 5 1 va l.length (by8 (BM.nat l))
  new : ∀ i, v.ownBlock = some i → w.heap.size ≤ i
  far : ∀ i, va.ownBlock = some i → v.ownBlock ≠ some i
  touch : Touch w w' (fun k => k = g)

theorem may_ok' {x : Nat} {n : Int} (h : BM.may x n = 0) : ∃ m : Nat, n = (m : Int) ∧ m ≤ 32 ∧ x / 2 ^ m = 0 := by
  unfold BM.may at h
  split at h
  · simp at h
  · split at h
    · exact ⟨n.toNat, by omega, by omega, ‹_›⟩
    · simp at h
theorem may_c (w : World) (x : Nat) (n : Int) (hx : x < 4294967296) :
    Calls Try.prog 24 #[.int .u32 (x : Int), .int .i64 n] w fun e w' => e = .returned (.int .i64 (BM.may x n)) ∧ w = w' := by
  unfold BM.may
  by_cases h : n < 0 ∨ 32 < n
  · rw [if_pos h]; exact may_arg w x n h
  · rw [if_neg h]
    obtain ⟨m, rfl⟩ : ∃ m : Nat, n = (m : Int) := ⟨n.toNat, by omega⟩
    rw [Int.toNat_natCast]
    by_cases h2 : x / 2 ^ m = 0
    · rw [if_pos h2]; exact may_ok w x m (by omega) h2
    · rw [if_neg h2]; exact may_range w x m (by omega) hx h2
/-- Put, whatever its arguments -/
theorem put_c (w : World) (base g : Nat) (v : Value) (l : List Bool) (x : Nat) (n : Int) (h : Wr w base g v l) (hl : l.length < 1099511627000) (hx : x < 4294967296) :
    Calls Try.prog 25 #[.pointer (some ⟨g, 0, none⟩), .int .u32 (x : Int), .int .i64 n] w fun e w' =>
      e = .returned (.int .i64 (BM.may x n)) ∧ ∃ v', Grew w w' base g v v' (l ++ BM.one (x, n)) := by
  have hsame : ∀ w', w = w' → BM.one (x, n) = [] → ∃ v', Grew w w' base g v v' (l ++ BM.one (x, n)) := by
    intro w' e1 e2
    subst e1
    rw [e2, List.append_nil]
    exact ⟨v, h, .inl rfl, Touch.refl _ _⟩
  unfold BM.may
  by_cases h1 : n < 0 ∨ 32 < n
  · rw [if_pos h1]
    exact (put_arg w g x n h1).mono fun _ w' ⟨a, b⟩ => ⟨a, hsame w' b (by unfold BM.one BM.may; rw [if_pos h1]; rfl)⟩
  · rw [if_neg h1]
    obtain ⟨m, rfl⟩ : ∃ m : Nat, n = (m : Int) := ⟨n.toNat, by omega⟩
    rw [Int.toNat_natCast]
    by_cases h2 : x / 2 ^ m = 0
    · rw [if_pos h2]
      have e : BM.one (x, (m : Int)) = BM.vbits x m := by unfold BM.one BM.may; rw [if_neg h1, Int.toNat_natCast, if_pos h2]; rfl
      rw [e]
      exact put_ok w base g v l x m h hl (by omega) hx h2
    · rw [if_neg h2]
      exact (put_range w g x m (by omega) h2).mono fun _ w' ⟨a, b⟩ => ⟨a, hsame w' b (by unfold BM.one BM.may; rw [if_neg h1, Int.toNat_natCast, if_neg h2]; rfl)⟩

set_option linter.unusedSimpArgs false in
set_option maxHeartbeats 1000000 in
theorem written_c (w : World) (base g : Nat) (v : Value) (ops : List (Nat × Int)) (hW : Wr w base g (.slice none 0 0) []) (hO : Ops w base v ops) (hn : ops.length ≤ 1000) :
    Calls Try.prog 10 #[.pointer (some ⟨g, 0, none⟩), v] w fun e w' =>
      ∃ v' A c, e = .returned (.tuple #[.slice A (BM.bits ops).length c, .bool true]) ∧ Wn w w' base g v' (.slice A (BM.bits ops).length c) (BM.bits ops) := by
  obtain ⟨A0, c0, rfl⟩ := hO.len
  have hbase : base ≤ w.heap.size := by have := hW.from_; have := hW.cel.lt; omega
  have hgs := hW.cel.lt
  have hbg := hW.from_
  have HO := Lib.hid hO
  have HW := Lib.hid hW
  clear hO hW
  generalize hN : ops.length = N at *
  have HN := Lib.hid hN
  clear hN
  go_enter Try.func10, Try.ntmps10
  go_wp2_with fail
  go_loopw [6, 7] (fun va i wr => ∃ k : Nat, k ≤ N ∧ i = .int .i64 (k : Int) ∧ ∃ v', Wn w wr base g v' va (BM.bits (ops.take k))) (fun _ i _ => N - (intOf i).toNat)
  case atStart =>
    refine ⟨0, by omega, rfl, .slice none 0 0, ?_⟩
    rw [List.take_zero]
    exact ⟨HW.out, World.ownsRow_nil _ _ _ _, by simp [Value.ownBlock], by simp [Value.ownBlock], Touch.refl _ _⟩
  case round =>
    obtain ⟨k, hk, rfl, v', hWn⟩ := hrel
    have HWn := Lib.hid hWn
    obtain ⟨Aa, ca, rfl⟩ := own_slice hWn.all
    have hsz := hWn.touch.size
    clear hWn
    by_cases hlt : k < N
    · have hO1 := HO.out.to HWn.out.touch hbase (fun i hi e => by omega)
      obtain ⟨go, o, x, m, rfl, hgo, hq, hx, hm1, hm2, hc0, hc1⟩ := hO1.at_ k (by rw [HN.out]; exact hlt)
      have hstep := BM.bits_take ops k (x, m) hq
      have hlen := BM.length_bits (ops.take k)
      have hlen2 := List.length_take_le k ops
      have hlb : (BM.bits (ops.take k)).length < 1099511627000 := by omega
      have Hlb := Lib.hid hlb
      have Hst := Lib.hid hstep
      have hgw : go < wr.heap.size := by omega
      clear hO1 hq hstep hlen hlen2 hlb
      go_wp2_with fail
      go_quiet ((go_at_call 24; exact Calls.quiet_of_same ((may_c _ x m hx).mono fun _ _ ⟨a, b⟩ => ⟨a, b.symm⟩)))
      go_wp2_with fail
      have hng : ¬ foot g v' go := by
        rintro (e | e)
        · omega
        · have := HWn.out.new go e; omega
      go_upto_region 6 with fail
      go_cut [39] (fun s39 wx => s39 = .bool false ∧ ∃ v1, Grew wr wx base g v' v1 (BM.bits (ops.take k) ++ BM.one (x, m)))
      case first =>
        go_region_held3 (fun w' => w'.cell? ⟨go, o + k * 2, none⟩ = some (.int .u32 (x : Int)) ∧ w'.cell? ⟨go, o + k * 2 + 1, none⟩ = some (.int .i64 m)) ((refine ⟨?_, ?_⟩ <;> (first | (with_reducible assumption) | exact hc0 | exact hc1))) (first | (go_at_call 25; refine (put_c _ base g v' _ x m (by first | exact HWn.out.wr.drewN _ | exact (HWn.out.wr.drewN _).drew | exact HWn.out.wr.drew) Hlb.out hx).mono ?_; rintro e w1 ⟨rfl, v1, hG⟩; have HG := Lib.hid hG; have k0 := (hG.touch.cell (p := ⟨go, o + k * 2, none⟩) hgw hng).trans hc0; have k1 := (hG.touch.cell (p := ⟨go, o + k * 2 + 1, none⟩) hgw hng).trans hc1; clear hG))
        all_goals (go_wp2_with fail; go_meet)
        all_goals (exact ⟨rfl, v1, by first | exact HG.out.undrewN | exact HG.out.undrew | exact HG.out.undrew.undrewN⟩)
      case rest =>
        obtain ⟨rfl, v1, hG⟩ := hcut
        obtain ⟨wp, rfl⟩ : ∃ wp : World, wp = wc := ⟨_, rfl⟩
        have hnew1 : ∀ i, v1.ownBlock = some i → w.heap.size ≤ i := by
          intro i hi
          rcases hG.row with e | ⟨j, e, hj⟩
          · exact HWn.out.new i (e ▸ hi)
          · rw [e] at hi; injection hi with hi; omega
        have hfar1 : ∀ i, (Value.slice Aa (BM.bits (ops.take k)).length ca).ownBlock = some i → v1.ownBlock ≠ some i := by
          intro i hi he
          rcases hG.row with e | ⟨j, e, hj⟩
          · exact HWn.out.far i hi (e ▸ he)
          · rw [e] at he; injection he with he
            have := HWn.out.all.lt i hi; omega
        have hall1 := own_kept HWn.out.all hG.touch (by
          intro i hi hf
          rcases hf with e | e
          · have := HWn.out.all.lt i hi; omega
          · exact HWn.out.far i hi e)
        have ht1 : Touch w wp (fun k => k = g) := HWn.out.touch.trans hG.touch (by
          intro i hi
          rcases hi with e | e
          · exact .inl e
          · exact .inr (HWn.out.new i e))
        by_cases hok : BM.may x m = 0
        · obtain ⟨mm, rfl, hmm, _⟩ := may_ok' hok
          have hone : BM.one (x, (mm : Int)) = BM.vbits x mm := by unfold BM.one; rw [if_pos hok, Int.toNat_natCast]
          have hgc : go < wp.heap.size := by have := hG.touch.size; omega
          have hd0 := (hG.touch.cell (p := ⟨go, o + k * 2, none⟩) hgw hng).trans hc0
          have hd1 := (hG.touch.cell (p := ⟨go, o + k * 2 + 1, none⟩) hgw hng).trans hc1
          rw [hone] at hG
          have hwr := hG.wr
          have Hwr := Lib.hid hwr
          have Hall := Lib.hid hall1
          have Ht1 := Lib.hid ht1
          have Hnew := Lib.hid hnew1
          have Hfar := Lib.hid hfar1
          have hokb : (BM.may x (mm : Int) == 0) = true := by rw [hok]; rfl
          have hL : (BM.bits (ops.take (k + 1))).length = (BM.bits (ops.take k)).length + mm := by rw [Hst.out, List.length_append, hone, BM.length_vbits]
          have HL := Lib.hid hL
          have Hone := Lib.hid hone
          have hszc := ht1.size
          clear hwr hall1 ht1 hnew1 hfar1 hG hok hL hone hc0 hc1
          generalize hLb : (BM.bits (ops.take k)).length = L at *
          have HLb := Lib.hid hLb
          clear hLb
          go_wp2_with fail
          go_upto_region 9 with fail
          go_cut [6] (fun s6 wx => ∃ A1 c1, s6 = .slice A1 (L + mm) c1 ∧ wx.ownsRow w.heap.size 5 1 (.slice A1 (L + mm) c1) (L + mm) (by8 (BM.nat (BM.bits (ops.take k))) ++ by8 (BM.nat (BM.vbits x mm))) ∧ Touch wp wx (fun i => (Value.slice Aa L ca).ownBlock = some i) ∧ ((Value.slice A1 (L + mm) c1).ownBlock = (Value.slice Aa L ca).ownBlock ∨ ∃ j, (Value.slice A1 (L + mm) c1).ownBlock = some j ∧ wp.heap.size ≤ j))
          case first =>
            go_region_held3 (fun w' => w'.cell? ⟨go, o + k * 2, none⟩ = some (.int .u32 (x : Int)) ∧ w'.cell? ⟨go, o + k * 2 + 1, none⟩ = some (.int .i64 (mm : Int))) ((refine ⟨?_, ?_⟩ <;> (first | (with_reducible assumption) | exact hd0 | exact hd1))) (first | (go_at_call 26; refine (bits_c _ x mm hmm hx).mono ?_; rintro e w1 ⟨A1, q1, rfl, ho1, hT1⟩; have Ho1 := Lib.hid ho1; have hT1' : Touch wp w1 (fun _ => False) := (by first | exact hT1 | exact hT1.undrew | exact hT1.undrewN | exact hT1.undrew.undrewN); have HT1 := Lib.hid hT1'; have k0 := (hT1.cell (p := ⟨go, o + k * 2, none⟩) hgc (fun h => h)).trans hd0; have k1 := (hT1.cell (p := ⟨go, o + k * 2 + 1, none⟩) hgc (fun h => h)).trans hd1; clear ho1 hT1 hT1') | (refine step_append_sl (by rfl) _ _ (by rfl) w.heap.size _ _ L _ (BM.nat (BM.vbits x mm)) (by rfl) (by rfl) (own_kept Hall.out HT1.out (fun _ _ h => h)) (Sl.own Ho1.out) (by rw [BM.length_nat, BM.length_vbits]; have := Hlb.out; have := HLb.out; omega) (by have := HT1.out.size; omega) ?_; intro v2 w2 ho2 hg2 hat2; rw [BM.length_nat, BM.length_vbits] at ho2; have hT2 : Touch w1 w2 (fun i => (Value.slice Aa L ca).ownBlock = some i) := Touch.grown hg2 (fun i hi => .inl hi); have k2 := (hT2.cell (p := ⟨go, o + k * 2, none⟩) (Nat.lt_of_lt_of_le hgc HT1.out.size) (fun h => by have := (Hall.out.lt go h).1; omega)).trans k0; have k3 := (hT2.cell (p := ⟨go, o + k * 2 + 1, none⟩) (Nat.lt_of_lt_of_le hgc HT1.out.size) (fun h => by have := (Hall.out.lt go h).1; omega)).trans k1; obtain ⟨A2, q2, rfl⟩ := own_slice ho2; have Ho2 := Lib.hid ho2; have HT2 := Lib.hid hT2; have Hat2 := Lib.hid hat2; clear ho2 hg2 hat2 hT2))
            all_goals (go_wp2_with fail; go_meet)
            all_goals (refine ⟨A2, q2, rfl, Ho2.out, (HT1.out.wide (fun i h => h.elim)).trans HT2.out (fun i hi => .inl hi), ?_⟩; (rcases Hat2.out with e | e); exact .inl e; exact .inr ⟨_, e, HT1.out.size⟩)
          case rest =>
            obtain ⟨A1, c1, rfl, ho, ht, hrow⟩ := hcut
            have hWn : Wn w wc base g v1 (.slice A1 (L + mm) c1) (BM.bits (ops.take (k + 1))) := by
              refine ⟨?_, ?_, Hnew.out, ?_, Ht1.out.trans ht (fun i hi => .inr (Hall.out.lt i hi).1)⟩
              · rw [Hst.out, Hone.out]
                exact ⟨Hwr.out.from_, Hwr.out.cel.kept ht (fun e => by have := Hall.out.lt g e; omega), own_kept Hwr.out.own ht (fun i hi e => Hfar.out i e hi)⟩
              · rw [Hst.out, Hone.out, BM.nat_app, by8_app, List.length_append, HLb.out, BM.length_vbits]
                exact ho
              · intro i hi he
                rcases hrow with e | ⟨j, e, hj⟩
                · exact Hfar.out i (e ▸ hi) he
                · rw [e] at hi; injection hi with hi
                  have := (Hwr.out.own.lt i he).2
                  omega
            have HWn2 := Lib.hid hWn
            clear hWn ho ht hrow
            go_wp2_with fail
            refine (len_c _ base g _ _ HWn2.out.wr).mono ?_
            rintro e w1 ⟨rfl, rfl⟩
            rw [HL.out]
            go_wp2_with fail
            go_roundw
            case rel => exact ⟨k + 1, by omega, by go_num, v1, HWn2.out⟩
            case measure => simp [intOf]; omega
        · have hone : BM.one (x, m) = [] := by unfold BM.one; rw [if_neg hok]
          have hokb : (BM.may x m == 0) = false := beq_eq_false_iff_ne.2 hok
          have hWn : Wn w wp base g v1 (.slice Aa (BM.bits (ops.take k)).length ca) (BM.bits (ops.take (k + 1))) := by
            rw [Hst.out, hone, List.append_nil]
            refine ⟨?_, hall1, hnew1, hfar1, ht1⟩
            have := hG.wr
            rwa [hone, List.append_nil] at this
          have hL : (BM.bits (ops.take (k + 1))).length = (BM.bits (ops.take k)).length := by rw [Hst.out, hone, List.append_nil]
          have HL := Lib.hid hL
          have HWn2 := Lib.hid hWn
          clear hWn hL hone hok hG hnew1 hfar1 hall1 ht1 hc0 hc1
          go_wp2_with fail
          refine (len_c _ base g _ _ HWn2.out.wr).mono ?_
          rintro e w1 ⟨rfl, rfl⟩
          rw [HL.out]
          go_wp2_with fail
          go_roundw
          case rel => exact ⟨k + 1, by omega, by go_num, v1, HWn2.out⟩
          case measure => simp [intOf]; omega
    · obtain rfl : k = N := by omega
      have hfull : ops.take k = ops := List.take_of_length_le (by rw [HN.out]; omega)
      have Hfull := Lib.hid hfull
      clear hfull
      go_wp2_with fail
      go_ret2
      have h1 := HWn.out
      rw [Hfull.out] at h1 ⊢
      exact ⟨v', Aa, ca, rfl, h1⟩
end Go.Proofs.Ytmogpacbfgiccaa
