/- The law BitioUnique as a contract. -/
import Derived.Test.YtmogpacbfgiccaaBitL1
namespace Go.Proofs.Ytmogpacbfgiccaa
open Go.RowKit

/-- a reader and a writer that do not touch each other -/
structure Both (w : World) (B gr : Nat) (A : Option Addr) (c : Nat) (p : List Nat) (t g : Nat) (v : Value) (l : List Bool) : Prop where
  rd : Rd w B gr A c p t
  wr : Wr w B g v l
  far : ∀ i, (Value.slice A p.length c).ownBlock = some i → v.ownBlock ≠ some i

theorem Both.ne {w : World} {B gr : Nat} {A : Option Addr} {c : Nat} {p : List Nat} {t g : Nat} {v : Value} {l : List Bool} (h : Both w B gr A c p t g v l) : gr ≠ g := Cel.apart h.rd.cel h.wr.cel (by decide)
theorem Both.took {w w' : World} {B gr : Nat} {A : Option Addr} {c : Nat} {p : List Nat} {t t' g : Nat} {v : Value} {l : List Bool} (h : Both w B gr A c p t g v l) (hR : Rd w' B gr A c p t') (k : Touch w w' (fun k => k = gr)) : Both w' B gr A c p t' g v l := by
  refine ⟨hR, h.wr.kept k ?_, h.far⟩
  intro i hi e
  rcases hi with hi | hi
  · exact h.ne (by omega)
  · rw [e] at hi; exact own_apart h.wr.own h.rd.cel (by decide) hi
theorem Both.put {w w' : World} {B gr : Nat} {A : Option Addr} {c : Nat} {p : List Nat} {t g : Nat} {v v' : Value} {l l' : List Bool} (h : Both w B gr A c p t g v l) (k : Grew w w' B g v v' l') : Both w' B gr A c p t g v' l' := by
  refine ⟨⟨h.rd.from_, h.rd.cel.kept k.touch ?_, own_kept h.rd.own k.touch ?_, h.rd.good, h.rd.taken⟩, k.wr, ?_⟩
  · rintro (e | e)
    · exact h.ne e
    · exact own_apart h.wr.own h.rd.cel (by decide) e
  · intro i hi e
    rcases e with e | e
    · rw [e] at hi; exact own_apart h.rd.own h.wr.cel (by decide) hi
    · exact h.far i hi e
  · intro i hi he
    rcases k.row with e | ⟨j, e, hj⟩
    · exact h.far i hi (e ▸ he)
    · rw [e] at he; injection he with he
      have := (h.rd.own.lt i hi).2; omega
theorem Both.kept0 {w w' : World} {B gr : Nat} {A : Option Addr} {c : Nat} {p : List Nat} {t g : Nat} {v : Value} {l : List Bool} (h : Both w B gr A c p t g v l) (k : Touch w w' (fun _ => False)) : Both w' B gr A c p t g v l := ⟨h.rd.kept0 k, h.wr.kept0 k, h.far⟩

set_option linter.unusedSimpArgs false in
set_option maxHeartbeats 1000000 in
theorem lawUnique_c (W : World) (v : Value) (p : List Nat) (hS : Sl W v p) (hby : ∀ x ∈ p, x < 256) :
    Calls Try.prog 6 #[v] W fun e w' => e = .returned (.bool true) ∧ Touch W w' (fun _ => False) := by
  obtain ⟨A0, c0, rfl⟩ := hS.len
  have HS := Lib.hid hS
  clear hS
  by_cases hbig : 500 < p.length
  · go_enter Try.func6, Try.ntmps6
    go_wp2
    go_ret
    exact ⟨rfl, Touch.refl _ _⟩
  · by_cases hbad : p.length = 0 ∨ p.getD (p.length - 1) 0 = 0
    · by_cases h0 : p.length = 0
      · have HB := Lib.hid hbad
        clear hbad hbig
        have H0 := Lib.hid h0
        rw [h0]
        clear h0
        go_enter Try.func6, Try.ntmps6
        go_wp2_with fail
        refine (newr_form _ _ p (by have := HS.out; rwa [H0.out] at this) (by rw [H0.out]; decide) HB.out).mono ?_
        rintro e w1 ⟨rfl, rfl⟩
        go_wp2_with fail
        refine (awake_c _).mono ?_
        rintro e w7 ⟨rfl, ht7⟩
        have Ht7 := Lib.hid ht7
        clear ht7
        go_wp2
        go_ret
        exact ⟨rfl, Ht7.out⟩
      · have hl : p.getD (p.length - 1) 0 = 0 := by rcases hbad with e | e; exact absurd e h0; exact e
        have hA : ∃ g o, A0 = some ⟨g, o, none⟩ ∧ g < W.heap.size := by
          rcases HS.out with ⟨_, e⟩ | ⟨a, c, _, e⟩ | ⟨g, o, cap, e, _, hg, _⟩
          · rw [e] at h0; simp at h0
          · rw [e] at h0; simp at h0
          · injection e with e; exact ⟨g, o, e, hg⟩
        obtain ⟨g, o, rfl, hg⟩ := hA
        have hc := HS.out.at_ (p.length - 1) (by omega)
        rw [hl] at hc
        have HB := Lib.hid hbad
        have hz : (((p.length : Nat) : Int) == 0) = false := beq_eq_false_iff_ne.2 (by omega)
        have hz2 : (p.length = 0) = False := eq_false (by omega)
        have hlen : 0 < p.length := by omega
        have Hc := Lib.hid hc
        clear hbad hl h0 hc
        generalize hn : p.length = n at *
        have Hn := Lib.hid hn
        clear hn
        go_enter Try.func6, Try.ntmps6
        go_wp2_with fail
        refine (newr_form _ _ p HS.out (by rw [Hn.out]; omega) (by rw [Hn.out]; exact HB.out)).mono ?_
        rintro e w1 ⟨rfl, rfl⟩
        go_wp2_with fail
        refine (awake_c _).mono ?_
        rintro e w7 ⟨rfl, ht7⟩
        have k0 : w7.cell? ⟨g, o + (n - 1), none⟩ = some (.int .u8 0) := (ht7.cell (p := ⟨g, o + (n - 1), none⟩) hg (fun e => e)).trans Hc.out
        have Ht7 := Lib.hid ht7
        clear ht7
        go_wp2
        go_ret
        exact ⟨rfl, Ht7.out⟩
    · have hgood : BM.Good p := ⟨hby, by omega, by omega⟩
      have hcl := hgood.cnt_lt
      have HG := Lib.hid hgood
      clear hbad hgood
      go_enter Try.func6, Try.ntmps6
      go_wp2_with fail
      refine (newr_ok _ _ p HS.out (by omega) HG.out).mono ?_
      rintro e w1 ⟨gr, A1, c1, rfl, hR1, ht1⟩
      have HR1 := Lib.hid hR1; have HT1 := Lib.hid ht1
      clear hR1 ht1
      go_wp2_with fail
      refine (new_c _).mono ?_
      rintro e w2 ⟨rfl, hW2, ht2⟩
      have hB2 : Both w2 W.heap.size gr A1 c1 p 0 w1.heap.size (.slice none 0 0) [] := ⟨HR1.out.kept0 ht2, ⟨HT1.out.size, hW2.cel, World.ownsRow_nil _ _ _ _⟩, by simp [Value.ownBlock]⟩
      have hT2 : Touch W w2 (fun _ => False) := HT1.out.trans ht2 (fun _ e => e.elim)
      have HB2 := Lib.hid hB2; have HT2 := Lib.hid hT2
      clear hB2 hT2 hW2 ht2
      generalize hg : w1.heap.size = gw at *
      clear hg
      go_wp2_with fail
      refine (left_c _ _ gr _ _ _ _ HB2.out.rd (by omega)).mono ?_
      rintro e w3 ⟨rfl, n3, rfl⟩
      have hz : BM.cnt p - 0 ≤ 8 * p.length := by omega
      go_wp2_with fail
      go_loopw [6] (fun _ wr => ∃ k v, k ≤ BM.cnt p ∧ Both wr W.heap.size gr A1 c1 p k gw v ((BM.unpk p).take k) ∧ Touch W wr (fun _ => False)) (fun _ wr => BM.cnt p - (intOf ((wr.cell? ⟨gr, 1, none⟩).getD undef)).toNat)
      case atStart => exact ⟨0, _, Nat.zero_le _, (HB2.out.kept0 ((Touch.refl _ _).drewN _)), HT2.out.drewN _⟩
      case round =>
        obtain ⟨k, v1, hk, hB, hT⟩ := hrel
        have HBk := Lib.hid hB; have HTk := Lib.hid hT
        clear hB hT
        by_cases hlt : k < BM.cnt p
        · go_wp2_with fail
          refine (left_c _ _ gr _ _ _ _ HBk.out.rd (by omega)).mono ?_
          rintro e w4 ⟨rfl, n4, rfl⟩
          go_wp2_with fail
          refine (left_c _ _ gr _ _ _ _ (HBk.out.rd.drewN _) (by omega)).mono ?_
          rintro e w5 ⟨rfl, n5, rfl⟩
          go_wp2_with fail
          refine (take_ok _ _ gr _ _ _ k 1 ((HBk.out.rd.drewN _)) (by omega) (by decide) (by omega)).mono ?_
          rintro e w6 ⟨rfl, hR6, ht6⟩
          have hB6 : Both w6 W.heap.size gr A1 c1 p (k + 1) gw v1 ((BM.unpk p).take k) := HBk.out.took hR6 (by first | exact ht6.undrewN | exact ht6.undrewN.undrewN)
          have hT6 : Touch W w6 (fun _ => False) := HTk.out.trans (by first | exact ht6.undrewN | exact ht6.undrewN.undrewN) (fun i hi => .inr (by have := HBk.out.rd.from_; omega))
          have HB6 := Lib.hid hB6; have HT6 := Lib.hid hT6
          clear hB6 hT6 hR6 ht6
          rw [BM.part_one p k hlt]
          have hstep := BM.take_unpk p k hlt
          have Hst := Lib.hid hstep
          clear hstep
          generalize BM.pbit p k = b at *
          have hb2 : b.toNat < 2 := by cases b <;> decide
          go_wp2_with fail
          refine (put_ok _ _ gw _ _ b.toNat 1 HB6.out.wr (by rw [List.length_take, BM.length_unpk]; omega) (by decide) (by omega) (by omega)).mono ?_
          rintro e w7 ⟨rfl, v7, hG7⟩
          rw [BM.vbits_one, ← Hst.out] at hG7
          have hB7 := HB6.out.put hG7
          have hT7 : Touch W w7 (fun _ => False) := HT6.out.trans hG7.touch (fun i hi => .inr (foot_new HB6.out.wr (Nat.le_refl _) i hi))
          have HB7 := Lib.hid hB7; have HT7 := Lib.hid hT7
          clear hB7 hT7 hG7
          go_wp2_with fail
          refine (left_c _ _ gr _ _ _ _ HB7.out.rd (by omega)).mono ?_
          rintro e w8 ⟨rfl, n8, rfl⟩
          have hsub : ((BM.cnt p - k : Nat) : Int) - 1 = ((BM.cnt p - (k + 1) : Nat) : Int) := by omega
          have hwr : IntKind.i64.wrap (((BM.cnt p - k : Nat) : Int) - 1) = ((BM.cnt p - (k + 1) : Nat) : Int) := by rw [hsub]; exact IntWalk.i64_in _ (by omega)
          go_wp2_with fail
          refine ⟨⟨k + 1, v7, by omega, HB7.out.kept0 ((Touch.refl _ _).drewN _), HT7.out.drewN _⟩, ?_⟩
          have m1 : (w7.drewN n8).cell? ⟨gr, 1, none⟩ = some (.int .i64 ((k + 1 : Nat) : Int)) := HB7.out.rd.cel.cell 1
          have m2 : wr.cell? ⟨gr, 1, none⟩ = some (.int .i64 (k : Int)) := HBk.out.rd.cel.cell 1
          rw [m1, m2]
          simp only [Option.getD_some, intOf, Int.toNat_natCast]
          omega
        · obtain rfl : k = BM.cnt p := by omega
          go_wp2_with fail
          refine (left_c _ _ gr _ _ _ _ HBk.out.rd (by omega)).mono ?_
          rintro e w4 ⟨rfl, n4, rfl⟩
          rw [Nat.sub_self]
          go_wp2_with fail
          refine (awake_c _).mono ?_
          rintro e w7 ⟨rfl, ht7⟩
          have hT7 : Touch W w7 (fun _ => False) := (HTk.out.drewN _).trans ht7 (fun _ e => e.elim)
          have hB7 := (HBk.out.kept0 ((Touch.refl _ _).drewN _)).kept0 ht7
          have HB7 := Lib.hid hB7; have HT7 := Lib.hid hT7
          clear hB7 hT7 ht7
          go_wp2_with fail
          refine (payload_c _ _ _ _ _ HB7.out.wr (by rw [List.length_take, BM.length_unpk]; omega)).mono ?_
          rintro e w8 ⟨A8, c8, rfl, ho8, ht8⟩
          have hfull : (BM.unpk p).take (BM.cnt p) = BM.unpk p := List.take_of_length_le (by rw [BM.length_unpk]; exact Nat.le_refl _)
          rw [hfull, BM.pay_unpk HG.out] at ho8 ⊢
          have hT8 : Touch W w8 (fun _ => False) := HT7.out.trans ht8 (fun _ e => e.elim)
          have HS8 := Lib.hid (Sl.own ho8); have HT8 := Lib.hid hT8
          clear ho8 hT8 ht8 hfull
          go_wp2_with fail
          refine (same_c _ _ _ p HS8.out (HS.out.to HT8.out (fun _ _ e => e))).mono ?_
          rintro e w9 ⟨rfl, rfl⟩
          go_wp2
          go_ret
          exact ⟨rfl, HT8.out⟩
end Go.Proofs.Ytmogpacbfgiccaa
