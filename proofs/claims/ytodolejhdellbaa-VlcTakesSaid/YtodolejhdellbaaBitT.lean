/- The reference's Open. -/
import Derived.Test.YtodolejhdellbaaBitQ
import Derived.Test.YtodolejhdellbaaBitF
namespace Go.Proofs.Ytodolejhdellbaa
open Go.RowKit

theorem ropen_form (w : World) (v : Value) (p : List Nat) (h : Sl w v p) (hp : p.length < 1099511627776) (hbad : p.length = 0 ∨ p.getD (p.length - 1) 0 = 0) :
    Calls Try.prog 26 #[v] w fun e w' => e = .returned (.tuple #[.pointer none, .int .i64 3]) ∧ w = w' := by
  by_cases h0 : p.length = 0
  · obtain rfl := List.eq_nil_of_length_eq_zero h0
    have hv : ∃ A c, v = .slice A 0 c := h.len
    obtain ⟨A, c, rfl⟩ := hv
    clear h h0 hbad
    go_enter Try.func26, Try.ntmps26
    go_wp2
    go_ret2
    exact ⟨rfl, rfl⟩
  · have hl : p.getD (p.length - 1) 0 = 0 := by rcases hbad with e | e; exact absurd e h0; exact e
    rcases h with ⟨rfl, rfl⟩ | ⟨_, _, _, rfl⟩ | ⟨g, o, cap, rfl, hcap, hlt, hcell⟩
    · simp at h0
    · simp at h0
    · have hc : w.cell? ⟨g, o + (p.length - 1), none⟩ = some (.int .u8 0) := by
        have := Sl.at_ (w := w) (n := p.length) (cap := cap) (bs := p) (.inr (.inr ⟨g, o, cap, rfl, hcap, hlt, hcell⟩)) (p.length - 1) (by omega)
        rw [hl] at this
        exact this
      have hlen : 0 < p.length := by omega
      clear hcell hbad hl
      have hz : (((p.length : Nat) : Int) == 0) = false := beq_eq_false_iff_ne.2 (by omega)
      have hz2 : (p.length = 0) = False := eq_false (by omega)
      generalize p.length = n at *
      go_enter Try.func26, Try.ntmps26
      go_wp2
      go_ret2
      exact ⟨rfl, rfl⟩

/-- what Open leaves -/
def Opened (w : World) (p : List Nat) (e : Ending) (w' : World) : Prop := ∃ g A c, e = .returned (.tuple #[.pointer (some ⟨g, 0, none⟩), .int .i64 0]) ∧ Rr w' w.heap.size g A c (BM.unpk p) 0 ∧ Touch w w' (fun _ => False)

set_option maxHeartbeats 1000000 in
theorem ropen_ok (w : World) (v : Value) (p : List Nat) (h : Sl w v p) (hp : p.length < 1099511627776) (hgood : BM.Good p) :
    Calls Try.prog 26 #[v] w (Opened w p) := by
  have hs := hgood.some_
  have hA : ∃ g o cap, v = .slice (some ⟨g, o, none⟩) p.length cap := by
    rcases h with ⟨_, e⟩ | ⟨_, _, _, e⟩ | ⟨g, o, cap, rfl, _⟩
    · subst e; simp at hs
    · subst e; simp at hs
    · exact ⟨_, _, _, rfl⟩
  obtain ⟨go, o, c0, rfl⟩ := hA
  have hc := h.at_ (p.length - 1) (by omega)
  have hy := BM.getD_byte hgood.byte (p.length - 1)
  have hl := hgood.last
  have hcl := hgood.cnt_lt
  have H := Lib.hid h; have HG := Lib.hid hgood
  have hyz : (((p.getD (p.length - 1) 0 : Nat) : Int) == 0) = false := beq_eq_false_iff_ne.2 (by omega)
  have hz : (((p.length : Nat) : Int) == 0) = false := beq_eq_false_iff_ne.2 (by omega)
  have hz2 : (p.length = 0) = False := eq_false (by omega)
  generalize p.getD (p.length - 1) 0 = y0 at *
  clear h hgood hl
  generalize hN : p.length = N at *
  have HN := Lib.hid hN
  clear hN
  go_enter Try.func26, Try.ntmps26
  go_wp2_with fail
  clear hc hyz hz hz2 hy
  go_loopw [4, 5] (fun va i wr => ∃ k : Nat, k ≤ N ∧ i = .int .i64 (k : Int) ∧ wr.ownsRow w.heap.size 5 1 va (8 * k) (by8 (BM.nat (BM.allb p k))) ∧ Touch w wr (fun _ => False)) (fun _ i _ => N - (intOf i).toNat)
  case atStart => exact ⟨0, by omega, rfl, World.ownsRow_nil _ _ _ _, Touch.refl _ _⟩
  case round =>
    obtain ⟨k, hk, rfl, ho, ht⟩ := hrel
    have Ho := Lib.hid ho; have Ht := Lib.hid ht
    have hsz := ht.size
    by_cases hlt : k < N
    · have hc := (H.out.to ht (fun _ _ e => e)).at_ k (by rw [HN.out]; exact hlt)
      have hy := BM.getD_byte HG.out.byte k
      have hst := BM.allb_succ p k
      have Hst := Lib.hid hst
      generalize p.getD k 0 = y at *
      have hu : ((y : Int) % 4294967296) = (y : Int) := by omega
      clear ho ht hst
      go_wp2_with fail
      refine (bits_c _ y 8 (by decide) (by omega)).mono ?_
      rintro e w1 ⟨A1, c1, rfl, ho1, ht1⟩
      have Ho1 := Lib.hid (Sl.own ho1)
      have Hk := Lib.hid (own_kept Ho.out ht1 (fun _ _ e => e))
      have HT1 := Lib.hid (Ht.out.trans ht1 (fun _ e => e.elim))
      have hsz1 := ht1.size
      clear ho1 ht1
      go_wp2_with (at_builtin; refine wpl_append_sl rfl _ _ rfl w.heap.size _ _ (8 * k) _ (BM.nat (BM.vbits y 8)) rfl rfl Hk.out Ho1.out ?c1 ?c2 ?_)
      case c1 => rw [BM.length_nat, BM.length_vbits]; omega
      case c2 => omega
      intro v2 w2 ho2 hg2 hat2
      rw [BM.length_nat, BM.length_vbits, ← by8_app, ← BM.nat_app, ← Hst.out] at ho2
      have ht2 : Touch w w2 (fun _ => False) := HT1.out.trans (Touch.grown (S := fun i => w.heap.size ≤ i) hg2 (fun i hi => .inl (Hk.out.lt i hi).1)) (fun i hi => .inr hi)
      have Ho2 := Lib.hid ho2; have HT2 := Lib.hid ht2
      clear ho2 hg2 hat2 ht2
      go_wp2_with fail
      go_roundw
      case rel => exact ⟨k + 1, by omega, by go_num, Ho2.out, HT2.out⟩
      case measure => simp [intOf]; omega
    · obtain rfl : k = N := by omega
      obtain ⟨gr, cap, rfl, hbg, hltg, hcap, hmax, hcell, hfree⟩ := own_some ho (by omega)
      have hcnt := HG.out.cnt_eq
      have htz := HG.out.tz
      rw [HN.out] at hcnt htz
      have hcell2 : ∀ j, j < 8 * k → wr.cell? ⟨gr, j, none⟩ = some (.int .u8 (((BM.pbit p j).toNat : Nat) : Int)) := by
        intro j hj
        rw [hcell j (by omega)]
        unfold by8
        rw [List.getElem?_map]
        have : (BM.nat (BM.allb p k))[j]? = some (BM.pbit p j).toNat := by
          unfold BM.nat BM.allb
          simp [hj]
        rw [this]; rfl
      have Hcell := Lib.hid hcell2
      have hc8 : BM.cnt p ≤ 8 * k - 1 := by omega
      have hcn : BM.cnt p < 8 * k := by omega
      clear hcell hfree hcell2 ho ht hcnt htz
      generalize hC : BM.cnt p = C at *
      have HC := Lib.hid hC
      clear hC
      go_wp2_with fail
      go_loop [6] (fun e => ∃ j : Nat, C ≤ j ∧ j < 8 * k ∧ e = .int .i64 (j : Int)) (fun e => (intOf e).toNat)
      case atStart => exact ⟨8 * k - 1, by omega, by omega, by congr 1; omega⟩
      case round =>
        obtain ⟨j, hj1, hj2, rfl⟩ := hrel
        have hb := Hcell.out j hj2
        by_cases hjc : j = C
        · have hv : BM.pbit p j = true := by rw [hjc, ← HC.out]; exact HG.out.mark
          rw [hv] at hb
          have hb' : wr.cell? ⟨gr, j, none⟩ = some (.int .u8 1) := hb
          clear hb hv
          have Hjc := Lib.hid hjc
          have hjcap : j ≤ cap := by omega
          clear hjc
          go_wp2_with fail
          go_ret2
          have hlu : (BM.unpk p).length = j := by rw [BM.length_unpk, HC.out, Hjc.out]
          refine ⟨wr.heap.size, some ⟨gr, 0, none⟩, cap, rfl, ⟨Ht.out.size, ?_, ?_, ?_, Nat.zero_le _⟩, Ht.out.alloc _⟩
          · rw [hlu]
            exact Cel.made _ _ _
          · rw [hlu]
            refine .inr (.inr ⟨gr, 0, cap, by rw [BM.length_nat, hlu], by rw [BM.length_nat, hlu]; exact hjcap, by simp; omega, ?_⟩)
            intro i u hi
            have hil : i < j := by
              rcases Nat.lt_or_ge i j with h | h
              · exact h
              · rw [List.getElem?_eq_none (by rw [length_by8, BM.length_nat, hlu]; exact h)] at hi; cases hi
            unfold by8 BM.nat at hi
            rw [List.getElem?_map, List.getElem?_map, BM.unpk_get p i (by have := Hjc.out; rw [HC.out]; omega)] at hi
            simp only [Option.map_some, Option.some.injEq] at hi
            subst hi
            rw [Nat.zero_add, World.cell?_of_block (Below.heap_alloc wr _ gr hltg)]
            exact Hcell.out i (by omega)
          · intro i hi
            simp [Value.ownBlock] at hi
            omega
        · have hv : BM.pbit p j = false := HG.out.tail j (by rw [HC.out]; omega) (by rw [HN.out]; exact hj2)
          rw [hv] at hb
          have hb' : wr.cell? ⟨gr, j, none⟩ = some (.int .u8 0) := hb
          clear hb hv
          go_wp2_with fail
          go_round
          case rel => exact ⟨j - 1, by omega, by omega, by congr 1; omega⟩
          case measure => simp [intOf]; omega
end Go.Proofs.Ytodolejhdellbaa
