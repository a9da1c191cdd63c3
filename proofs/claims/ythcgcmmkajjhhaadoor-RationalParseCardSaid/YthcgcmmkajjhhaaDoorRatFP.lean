/- The code's Parse. -/
import Derived.Test.YthcgcmmkajjhhaaDoorRatFC
import Derived.Test.YthcgcmmkajjhhaaDoorRatX
namespace Go.Proofs.YthcgcmmkajjhhaaDoor
set_option linter.unusedVariables false
set_option linter.unusedSimpArgs false
open Go.RowKit

theorem PS_ok {l : List UInt8} {n d : Int} (h1 : Lib.parseIntB 64 (cutL l).1 = .ok n) (h2 : Lib.parseIntB 64 (denL l) = .ok d) : PS l = if RM.ok n d = true ∧ FL n d = l then (n, d, 0) else (0, 0, 3) := by
  unfold PS
  rw [h1, h2]
theorem PS_no1 {l : List UInt8} (h : ∀ m, Lib.parseIntB 64 (cutL l).1 ≠ .ok m) : PS l = (0, 0, 3) := by
  unfold PS
  split
  · rename_i n d e1 e2; exact absurd e1 (h n)
  · rfl
theorem PS_no2 {l : List UInt8} (h : ∀ m, Lib.parseIntB 64 (denL l) ≠ .ok m) : PS l = (0, 0, 3) := by
  unfold PS
  split
  · rename_i n d e1 e2; exact absurd e2 (h d)
  · rfl
theorem ret_rat3 {q : Int × Int × Int} {a b c : Int} (h : q = (a, b, c)) : Ending.returned (.tuple #[.agg #[.int .i64 a, .int .i64 b], .int .i64 c]) = .returned (.tuple #[.agg #[.int .i64 q.1, .int .i64 q.2.1], .int .i64 q.2.2]) := by rw [h]

set_option maxRecDepth 20000 in
set_option maxHeartbeats 4000000 in
theorem parse_g (s : ByteArray) (sl : Bool) (a b dl : List UInt8) (q : Int × Int × Int) (ha : a.length ≤ 281474976710656) (hb : b.length ≤ 281474976710656)
    (hC : ∀ w, Calls Tryd.prog 37 #[.string s, .string ⟨#[47]⟩] w fun e w' => e = .returned (.tuple #[.string ⟨a.toArray⟩, .string ⟨b.toArray⟩, .bool sl]) ∧ Below w.heap.size w w')
    (hd : dl = if sl = true then b else [49])
    (q1 : ∀ n d, Lib.parseIntB 64 a = .ok n → Lib.parseIntB 64 dl = .ok d → q = if RM.ok n d = true ∧ FL n d = s.data.toList then (n, d, 0) else (0, 0, 3))
    (q2 : (∀ m, Lib.parseIntB 64 a ≠ .ok m) → q = (0, 0, 3)) (q3 : (∀ m, Lib.parseIntB 64 dl ≠ .ok m) → q = (0, 0, 3))
    (w : World) (hP : Pw w) (hE : Es w) :
    Calls Tryd.prog 13 #[.string s] w fun e w' => e = .returned (.tuple #[.agg #[.int .i64 q.1, .int .i64 q.2.1], .int .i64 q.2.2]) ∧ Below w.heap.size w w' := by
  have B0 : Below w.heap.size w (w.alloc (.cells #[.int .i64 0, .int .i64 0] 23)) := (Below.refl _ _).alloc (Nat.le_refl _) _
  have HB0 := Lib.hid B0
  have HC0 := Lib.hid (Cel.made w 23 #[.int .i64 0, .int .i64 0])
  have HP := Lib.hid hP
  have HE := Lib.hid hE
  have HCut := Lib.hid hC
  have HQ := Lib.hid (And.intro q1 (And.intro q2 q3))
  have hp1 : ∀ w', Below w.heap.size w w' → Pw w' := fun w' h => hP.to h (Nat.le_refl _)
  have hp2 : ∀ w', Below w.heap.size w w' → Es w' := fun w' h => hE.to h (Nat.le_refl _)
  have HTo := Lib.hid (And.intro hp1 hp2)
  clear B0 hP hE hC q1 q2 q3 hp1 hp2
  cases sl
  all_goals
    simp only [if_true, Bool.false_eq_true, if_false] at hd
    subst hd
    go_enter Tryd.func13, Tryd.ntmps13
    go_wp2_with fail
    refine (HCut.out _).mono ?_
    rintro e w1 ⟨rfl, hb1⟩
    have HB1 := Lib.hid (HB0.out.trans (hb1.mono HB0.out.size))
    have HC1 := Lib.hid (HC0.out.below hb1)
    clear hb1
    go_wp2_with fail
    refine (pint_c _ (by first | exact ha | (simpa using ha)) _ (HTo.out.2 _ HB1.out)).mono ?_
    rintro e w2 ⟨⟨v1, x1, rfl, hx1⟩, hb2⟩
    have HB2 := Lib.hid (HB1.out.trans (hb2.mono HB1.out.size))
    have HC2 := Lib.hid (HC1.out.below hb2)
    have HX1 := Lib.hid hx1
    clear hb2 hx1
    go_wp2_with fail
    refine (pint_c _ (by first | decide | exact hb | (simpa using hb)) _ (HTo.out.2 _ HB2.out)).mono ?_
    rintro e w3 ⟨⟨v2, x2, rfl, hx2⟩, hb3⟩
    have HB3 := Lib.hid (HB2.out.trans (hb3.mono HB2.out.size))
    have HC3 := Lib.hid (HC2.out.below hb3)
    clear hb3
    have hx1 := HX1.out
    clear HX1
    have nw3 : w.heap.size < w3.heap.size := HC3.out.lt
    have neq : ¬ w.heap.size = w3.heap.size := by omega
    rcases hx1 with ⟨p1, rfl⟩ | ⟨no1, t1, N1, rfl⟩
    · rcases hx2 with ⟨p2, rfl⟩ | ⟨no2, t2, N2, rfl⟩
      · have i1 := parse_in p1
        have i2 := parse_in p2
        have hq := HQ.out.1 _ _ p1 p2
        clear p1 p2
        have HBa := Lib.hid (HB3.out.alloc HB3.out.size (.cells #[.int .i64 v1, .int .i64 v2] 23))
        have HCa := Lib.hid (HC3.out.alloc (.cells #[.int .i64 v1, .int .i64 v2] 23))
        have HRa := Lib.hid (Cel.made w3 23 #[.int .i64 v1, .int .i64 v2])
        cases kv : RM.ok v1 v2
        · rw [if_neg (by simp [kv])] at hq
          have HR := Lib.hid hq
          clear hq
          have k0 : w3.cell? ⟨w.heap.size, 0, none⟩ = some (.int .i64 0) := HC3.out.cell 0
          have k1 : w3.cell? ⟨w.heap.size, 1, none⟩ = some (.int .i64 0) := HC3.out.cell 1
          have f0 := HC3.out.free 0
          have f1 := HC3.out.free 1
          have kl := HC3.out.lt
          go_wp2_with fail
          refine (valid_c v1 v2 i1 i2 _).mono ?_
          rintro e w4 ⟨rfl, hb4⟩
          rw [kv]
          have HB4 := Lib.hid (HBa.out.trans (hb4.mono HBa.out.size))
          have HC4 := Lib.hid (HCa.out.below hb4)
          have HR4 := Lib.hid (HRa.out.below hb4)
          clear hb4 k0 k1 f0 f1 kl
          have k0 : w4.cell? ⟨w.heap.size, 0, none⟩ = some (.int .i64 0) := HC4.out.cell 0
          have k1 : w4.cell? ⟨w.heap.size, 1, none⟩ = some (.int .i64 0) := HC4.out.cell 1
          have f0 := HC4.out.free 0
          have f1 := HC4.out.free 1
          have kl := HC4.out.lt
          have HBZ := HB4
          go_wp2
          refine bodyPost_ret (v := .tuple #[.agg #[.int .i64 0, .int .i64 0], .int .i64 3]) (by simp [results, Tryd.results13, go_sem, *]) rfl ⟨ret_rat3 HR.out, ?_⟩
          (repeat' (first | (with_reducible exact Below.refl _ _) | (with_reducible exact HBZ.out) | (with_reducible refine Below.alloc ?_ ?_ _) | (with_reducible refine below_drewN' ?_ _) | (with_reducible refine Below.drew ?_) | (with_reducible refine Below.setCell ?_ ?_ _) | go_size))
        · obtain ⟨bb, hbb⟩ : ∃ bb, decide (FL v1 v2 = s.data.toList) = bb := ⟨_, rfl⟩
          have hs : (FL v1 v2 == s.toList) = bb := by
            rw [Lib.toList_data, ← hbb]
            by_cases h : FL v1 v2 = s.data.toList
            · rw [h]; simp
            · rw [decide_eq_false h, beq_eq_false_iff_ne.2 h]
          have HS := Lib.hid hs
          have hq2 : q = if bb = true then (v1, v2, 0) else (0, 0, 3) := by
            rw [hq, ← hbb]
            simp [kv]
          clear hq hbb hs
          have k0 : w3.cell? ⟨w.heap.size, 0, none⟩ = some (.int .i64 0) := HC3.out.cell 0
          have k1 : w3.cell? ⟨w.heap.size, 1, none⟩ = some (.int .i64 0) := HC3.out.cell 1
          have f0 := HC3.out.free 0
          have f1 := HC3.out.free 1
          have kl := HC3.out.lt
          go_wp2_with fail
          refine (valid_c v1 v2 i1 i2 _).mono ?_
          rintro e w4 ⟨rfl, hb4⟩
          rw [kv]
          have HB4 := Lib.hid (HBa.out.trans (hb4.mono HBa.out.size))
          have HC4 := Lib.hid (HCa.out.below hb4)
          have HR4 := Lib.hid (HRa.out.below hb4)
          clear hb4 k0 k1 f0 f1 kl
          have k0 : w4.cell? ⟨w.heap.size, 0, none⟩ = some (.int .i64 0) := HC4.out.cell 0
          have k1 : w4.cell? ⟨w.heap.size, 1, none⟩ = some (.int .i64 0) := HC4.out.cell 1
          have f0 := HC4.out.free 0
          have f1 := HC4.out.free 1
          have kl := HC4.out.lt
          have r0 : w4.cell? ⟨w3.heap.size, 0, none⟩ = some (.int .i64 v1) := HR4.out.cell 0
          have r1 : w4.cell? ⟨w3.heap.size, 1, none⟩ = some (.int .i64 v2) := HR4.out.cell 1
          have rl := HR4.out.lt
          go_wp2_with fail
          refine (fmt_c v1 v2 i1 i2 _ (HTo.out.1 _ HB4.out)).mono ?_
          rintro e w5 ⟨rfl, hb5⟩
          have HB5 := Lib.hid (HB4.out.trans (hb5.mono HB4.out.size))
          have HC5 := Lib.hid (HC4.out.below hb5)
          have HR5 := Lib.hid (HR4.out.below hb5)
          clear hb5 k0 k1 f0 f1 kl r0 r1 rl
          have k0 : w5.cell? ⟨w.heap.size, 0, none⟩ = some (.int .i64 0) := HC5.out.cell 0
          have k1 : w5.cell? ⟨w.heap.size, 1, none⟩ = some (.int .i64 0) := HC5.out.cell 1
          have f0 := HC5.out.free 0
          have f1 := HC5.out.free 1
          have kl := HC5.out.lt
          have r0 : w5.cell? ⟨w3.heap.size, 0, none⟩ = some (.int .i64 v1) := HR5.out.cell 0
          have r1 : w5.cell? ⟨w3.heap.size, 1, none⟩ = some (.int .i64 v2) := HR5.out.cell 1
          have rl := HR5.out.lt
          have hs := HS.out
          cases bb
          · have HR := Lib.hid hq2
            have HBZ := HB5
            go_wp2
            refine bodyPost_ret (v := .tuple #[.agg #[.int .i64 0, .int .i64 0], .int .i64 3]) (by simp [results, Tryd.results13, go_sem, *]) rfl ⟨ret_rat3 HR.out, ?_⟩
            (repeat' (first | (with_reducible exact Below.refl _ _) | (with_reducible exact HBZ.out) | (with_reducible refine Below.alloc ?_ ?_ _) | (with_reducible refine below_drewN' ?_ _) | (with_reducible refine Below.drew ?_) | (with_reducible refine Below.setCell ?_ ?_ _) | go_size))
          · have HR := Lib.hid hq2
            have HBZ := HB5
            go_wp2
            refine bodyPost_ret (v := .tuple #[.agg #[.int .i64 v1, .int .i64 v2], .int .i64 0]) (by simp [results, Tryd.results13, go_sem, *]) rfl ⟨ret_rat3 HR.out, ?_⟩
            (repeat' (first | (with_reducible exact Below.refl _ _) | (with_reducible exact HBZ.out) | (with_reducible refine Below.alloc ?_ ?_ _) | (with_reducible refine below_drewN' ?_ _) | (with_reducible refine Below.drew ?_) | (with_reducible refine Below.setCell ?_ ?_ _) | go_size))
      · have HR := Lib.hid (HQ.out.2.2 no2)
        clear no2 p1
        have k0 : w3.cell? ⟨w.heap.size, 0, none⟩ = some (.int .i64 0) := HC3.out.cell 0
        have k1 : w3.cell? ⟨w.heap.size, 1, none⟩ = some (.int .i64 0) := HC3.out.cell 1
        have f0 := HC3.out.free 0
        have f1 := HC3.out.free 1
        have kl := HC3.out.lt
        have HBZ := HB3
        go_wp2
        refine bodyPost_ret (v := .tuple #[.agg #[.int .i64 0, .int .i64 0], .int .i64 3]) (by simp [results, Tryd.results13, go_sem, *]) rfl ⟨ret_rat3 HR.out, ?_⟩
        (repeat' (first | (with_reducible exact Below.refl _ _) | (with_reducible exact HBZ.out) | (with_reducible refine Below.alloc ?_ ?_ _) | (with_reducible refine below_drewN' ?_ _) | (with_reducible refine Below.drew ?_) | (with_reducible refine Below.setCell ?_ ?_ _) | go_size))
    · have HR := Lib.hid (HQ.out.2.1 no1)
      clear no1 hx2
      have k0 : w3.cell? ⟨w.heap.size, 0, none⟩ = some (.int .i64 0) := HC3.out.cell 0
      have k1 : w3.cell? ⟨w.heap.size, 1, none⟩ = some (.int .i64 0) := HC3.out.cell 1
      have f0 := HC3.out.free 0
      have f1 := HC3.out.free 1
      have kl := HC3.out.lt
      have HBZ := HB3
      go_wp2
      refine bodyPost_ret (v := .tuple #[.agg #[.int .i64 0, .int .i64 0], .int .i64 3]) (by simp [results, Tryd.results13, go_sem, *]) rfl ⟨ret_rat3 HR.out, ?_⟩
      (repeat' (first | (with_reducible exact Below.refl _ _) | (with_reducible exact HBZ.out) | (with_reducible refine Below.alloc ?_ ?_ _) | (with_reducible refine below_drewN' ?_ _) | (with_reducible refine Below.drew ?_) | (with_reducible refine Below.setCell ?_ ?_ _) | go_size))
end Go.Proofs.YthcgcmmkajjhhaaDoor
