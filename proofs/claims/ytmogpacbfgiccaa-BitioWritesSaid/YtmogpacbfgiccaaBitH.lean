/- 'written2' of the law. -/
import Derived.Test.YtmogpacbfgiccaaBitL1
namespace Go.Proofs.Ytmogpacbfgiccaa
open Go.RowKit

/-- what 'written2' leaves -/
structure W2 (w w' : World) (base g : Nat) (v v' vy : Value) (l : List Bool) (q : Nat × Int) : Prop where
  wr : Wr w' base g v' (l ++ BM.one q)
  row : v'.ownBlock = v.ownBlock ∨ ∃ k, v'.ownBlock = some k ∧ w.heap.size ≤ k
  bits : w'.ownsRow w.heap.size 5 1 vy (BM.one q).length (by8 (BM.nat (BM.one q)))
  touch : Touch w w' (foot g v)
  far : ∀ i, vy.ownBlock = some i → v'.ownBlock ≠ some i

set_option linter.unusedSimpArgs false in
set_option maxHeartbeats 1000000 in
theorem written2_c (w : World) (base g : Nat) (v : Value) (l : List Bool) (x : Nat) (m : Int) (hW : Wr w base g v l) (hl : l.length < 1099511600000) (hx : x < 4294967296) (hm : -9223372036854775808 ≤ m ∧ m ≤ 9223372036854775807) :
    Calls Try.prog 14 #[.pointer (some ⟨g, 0, none⟩), .agg #[.int .u32 (x : Int), .int .i64 m], .int .i64 (l.length : Int)] w fun e w' =>
      ∃ v' A c, e = .returned (.tuple #[.slice A (BM.one (x, m)).length c, .bool true]) ∧ W2 w w' base g v v' (.slice A (BM.one (x, m)).length c) l (x, m) := by
  have hgs := hW.cel.lt
  have HW := Lib.hid (hW.kept0 ((Touch.refl w _).alloc (.cells #[.int .u32 (x : Int), .int .i64 m] 34)))
  have hrow := fun i h => (hW.own.lt i h).2
  have Hrow := Lib.hid hrow
  clear hW hrow
  go_enter Try.func14, Try.ntmps14
  go_wp2_with fail
  refine (may_c _ x m hx).mono ?_
  rintro e w1 ⟨rfl, rfl⟩
  go_wp2_with fail
  refine (put_c _ base g v l x m HW.out (by omega) hx).mono ?_
  rintro e w1 ⟨rfl, v1, hG⟩
  have hb0 : w1.cell? ⟨w.heap.size, 0, none⟩ = some (.int .u32 (x : Int)) := (hG.touch.cell (p := ⟨w.heap.size, 0, none⟩) (by simp) (by
    rintro (e | e)
    · simp at e; omega
    · have := Hrow.out _ e; simp at this)).trans (by simp)
  have hb1 : w1.cell? ⟨w.heap.size, 1, none⟩ = some (.int .i64 m) := (hG.touch.cell (p := ⟨w.heap.size, 1, none⟩) (by simp) (by
    rintro (e | e)
    · simp at e; omega
    · have := Hrow.out _ e; simp at this)).trans (by simp)
  have hsz := hG.touch.size
  simp only [World.size_alloc] at hsz
  have hT : Touch w w1 (foot g v) := ((Touch.refl w _).alloc _).trans hG.touch (fun i hi => .inl hi)
  have hR : v1.ownBlock = v.ownBlock ∨ ∃ k, v1.ownBlock = some k ∧ w.heap.size ≤ k := by
    rcases hG.row with e | ⟨k, e, hk⟩
    · exact .inl e
    · exact .inr ⟨k, e, by simp at hk; omega⟩
  by_cases hok : BM.may x m = 0
  · obtain ⟨mm, rfl, hmm, _⟩ := may_ok' hok
    have hone : BM.one (x, (mm : Int)) = BM.vbits x mm := by unfold BM.one; rw [if_pos hok, Int.toNat_natCast]
    have hokb : (BM.may x (mm : Int) != 0) = false := by rw [hok]; rfl
    have hwr := hG.wr
    have hL : (l ++ BM.one (x, (mm : Int))).length = l.length + mm := by rw [hone, List.length_append, BM.length_vbits]
    have HL := Lib.hid hL; have Hone := Lib.hid hone
    have HWr := Lib.hid hwr; have HT := Lib.hid hT; have HR := Lib.hid hR
    clear hG hwr hT hR hok hL hone
    generalize hLl : l.length = L at *
    have HLl := Lib.hid hLl
    clear hLl
    have hsum : IntKind.i64.wrap ((L : Int) + (mm : Int)) = (L : Int) + (mm : Int) := IntWalk.i64_in _ (by omega)
    go_wp2_with fail
    go_upto_region 6 with fail
    go_cut [6, 7] (fun s6 s7 wx => s7 = .bool true ∧ ∃ A c, s6 = .slice A mm c ∧ wx.ownsRow w1.heap.size 5 1 (.slice A mm c) mm (by8 (BM.nat (BM.vbits x mm))) ∧ Touch w1 wx (fun _ => False))
    case first =>
      go_region_held3 (fun w' => w'.cell? ⟨w.heap.size, 0, none⟩ = some (.int .u32 (x : Int)) ∧ w'.cell? ⟨w.heap.size, 1, none⟩ = some (.int .i64 (mm : Int))) ((refine ⟨?_, ?_⟩ <;> (first | (with_reducible assumption) | exact hb0 | exact hb1))) (first | (go_at_call 26; refine (bits_c _ x mm hmm hx).mono ?_; rintro e w2 ⟨A2, q2, rfl, ho2, hT2⟩; have Ho2 := Lib.hid ho2; have hT2' : Touch w1 w2 (fun _ => False) := (by first | exact hT2 | exact hT2.undrew | exact hT2.undrewN | exact hT2.undrew.undrewN); have HT2 := Lib.hid hT2'; have k0 := (hT2.cell (p := ⟨w.heap.size, 0, none⟩) (by show w.heap.size < w1.heap.size; omega) (fun h => h)).trans hb0; have k1 := (hT2.cell (p := ⟨w.heap.size, 1, none⟩) (by show w.heap.size < w1.heap.size; omega) (fun h => h)).trans hb1; clear ho2 hT2 hT2') | (go_at_call 23; refine (len_c _ base g _ _ (by first | exact HWr.out | exact HWr.out.drew | exact HWr.out.drewN _ | exact HWr.out.kept0 HT2.out | exact (HWr.out.kept0 HT2.out).drewN _ | exact (HWr.out.kept0 HT2.out).drew)).mono ?_; rintro e w3 ⟨rfl, rfl⟩; rw [HL.out]))
      all_goals (go_wp2_with fail; go_meet)
      all_goals exact ⟨rfl, A2, q2, rfl, Ho2.out, HT2.out⟩
    case rest =>
      obtain ⟨rfl, A, c, rfl, ho, ht⟩ := hcut
      have Ho := Lib.hid ho; have Ht := Lib.hid ht
      clear ho ht
      go_wp2
      go_ret2
      rw [show (BM.one (x, (mm : Int))).length = mm from by rw [Hone.out, BM.length_vbits]]
      refine ⟨v1, A, c, rfl, HWr.out.kept0 Ht.out, HR.out, ?_, HT.out.trans Ht.out (fun _ e => e.elim), ?_⟩
      · rw [Hone.out, BM.length_vbits]
        exact own_more Ho.out (fun i hi => by have := (Ho.out.lt i hi).1; omega)
      · intro i hi he
        have h1 := (Ho.out.lt i hi).1
        have h2 := (HWr.out.own.lt i he).2
        omega
  · have hone : BM.one (x, m) = [] := by unfold BM.one; rw [if_neg hok]
    have hokb : (BM.may x m != 0) = true := by rw [bne_iff_ne]; exact hok
    have hwr := hG.wr
    have hL : (l ++ BM.one (x, m)).length = l.length := by rw [hone, List.append_nil]
    have HL := Lib.hid hL; have Hone := Lib.hid hone
    have HWr := Lib.hid hwr; have HT := Lib.hid hT; have HR := Lib.hid hR
    clear hG hwr hT hR hok hL hone
    go_wp2_with fail
    refine (len_c _ base g _ _ HWr.out).mono ?_
    rintro e w3 ⟨rfl, rfl⟩
    rw [HL.out]
    go_wp2
    go_ret2
    rw [show (BM.one (x, m)).length = 0 from by rw [Hone.out]; rfl]
    refine ⟨v1, none, 0, rfl, HWr.out, HR.out, ?_, HT.out, by simp [Value.ownBlock]⟩
    rw [Hone.out]
    exact World.ownsRow_nil _ _ _ _
end Go.Proofs.Ytmogpacbfgiccaa
