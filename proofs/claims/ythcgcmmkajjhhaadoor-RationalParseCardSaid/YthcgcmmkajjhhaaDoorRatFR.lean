/- The reference's Parse. -/
import Derived.Test.YthcgcmmkajjhhaaDoorRatFN
import Derived.Test.YthcgcmmkajjhhaaDoorRatFF
import Derived.Test.YthcgcmmkajjhhaaDoorRatX
namespace Go.Proofs.YthcgcmmkajjhhaaDoor
set_option linter.unusedVariables false
set_option linter.unusedSimpArgs false
open Go.RowKit

theorem RS_nil : RS [] = (0, 0, 3) := by unfold RS; rw [if_pos (.inl rfl)]
theorem RS_eq {l : List UInt8} {n d : Int} (h0 : l ≠ []) (h1 : nuL l = n) (h2 : deL l = d) : RS l = if FL n d = l then (n, d, 0) else (0, 0, 3) := by
  unfold RS
  rw [h1, h2]
  by_cases h : FL n d = l
  · rw [if_pos h, if_neg (by intro e; rcases e with e | e; exact h0 e; exact e h)]
  · rw [if_neg h, if_pos (.inr h)]
theorem ret_rat4 {q : Int × Int × Int} {a b c : Int} (h : q = (a, b, c)) : Ending.returned (.tuple #[.agg #[.int .i64 a, .int .i64 b], .int .i64 c]) = .returned (.tuple #[.agg #[.int .i64 q.1, .int .i64 q.2.1], .int .i64 q.2.2]) := by rw [h]

/-- what the reference's Parse reads of a text that is not empty, in parts -/
structure Parts (s : ByteArray) (neg : Bool) (a c nx : Nat) : Prop where
  sg : sgL s.data.toList = if neg = true then 1 else 0
  num : numG (s.data.toList.drop (sgL s.data.toList)) 0 0 = (a, c)
  nxe : nx = sgL s.data.toList + c
  ha : a ≤ 9223372036854775807
  hx : nx ≤ s.size
theorem parts (s : ByteArray) (h0 : 0 < s.size) (neg : Bool) (hs : sgL s.data.toList = if neg = true then 1 else 0) : ∃ a c nx, Parts s neg a c nx := by
  obtain ⟨b1, b2⟩ := numG_le (s.data.toList.drop (sgL s.data.toList)) 0 0 (by decide)
  refine ⟨_, _, _, hs, rfl, rfl, b1, ?_⟩
  rw [List.length_drop, Array.length_toList] at b2
  have : sgL s.data.toList ≤ 1 := by rw [hs]; split <;> omega
  have e : s.data.size = s.size := rfl
  omega
section
variable {s : ByteArray} {neg : Bool} {a c nx : Nat}
theorem Parts.nu (h : Parts s neg a c nx) : nuL s.data.toList = if neg = true then -(a : Int) else a := by
  unfold nuL n1
  rw [h.num, h.sg]
  cases neg <;> rfl
theorem Parts.dis (h : Parts s neg a c nx) : deL s.data.toList = if s.data.toList[nx]? = some 47 then ((numG (s.data.toList.drop (nx + 1)) 0 0).1 : Int) else 1 := by
  unfold deL n1
  rw [h.num]
  simp only
  rw [← h.nxe]
theorem Parts.de1 (h : Parts s neg a c nx) (hn : ¬ nx < s.size) : deL s.data.toList = 1 := by
  rw [h.dis, if_neg]
  rw [List.getElem?_eq_none (by rw [Array.length_toList]; exact Nat.le_of_not_lt hn)]
  simp
theorem getl (i : Nat) (hi : i < s.size) : s.data.toList[i]? = some s[i] := by
  have h' : i < s.data.toList.length := by rw [Array.length_toList]; exact hi
  rw [List.getElem?_eq_getElem h']
  rfl
theorem Parts.de2 (h : Parts s neg a c nx) (hn : nx < s.size) (hy : s[nx] ≠ 47) : deL s.data.toList = 1 := by
  rw [h.dis, if_neg]
  rw [getl nx hn]
  simpa using hy
theorem Parts.de3 (h : Parts s neg a c nx) (hn : nx < s.size) (hy : s[nx] = 47) : ∃ d : Nat, (numG (s.data.toList.drop (nx + 1)) 0 0).1 = d ∧ deL s.data.toList = d ∧ d ≤ 9223372036854775807 := by
  refine ⟨_, rfl, ?_, (numG_le _ 0 0 (by decide)).1⟩
  rw [h.dis, if_pos]
  rw [getl nx hn, hy]
theorem Parts.num_c (h : Parts s neg a c nx) (hs : s.size ≤ 281474976710656) (h0 : 0 < s.size) (w : World) :
    Calls Tryd.prog 40 #[.string s, .int .i64 (if neg = true then 1 else 0)] w fun e w' => e = .returned (.tuple #[.int .i64 a, .int .i64 nx]) ∧ Below w.heap.size w w' := by
  have hle : sgL s.data.toList ≤ s.size := by rw [h.sg]; split <;> omega
  have k := Go.Proofs.YthcgcmmkajjhhaaDoor.num_c s (sgL s.data.toList) hs hle w
  rw [h.num] at k
  have e1 : ((sgL s.data.toList : Nat) : Int) = if neg = true then 1 else 0 := by rw [h.sg]; cases neg <;> rfl
  have e2 : ((sgL s.data.toList : Nat) : Int) + (c : Int) = nx := by have := h.nxe; omega
  rw [show ((sgL s.data.toList : Nat) : Int) + ((a, c) : Nat × Nat).2 = nx from e2, e1] at k
  exact k
end

theorem den_c (s : ByteArray) (nx d : Nat) (hs : s.size ≤ 281474976710656) (hn : nx < s.size) (hd : (numG (s.data.toList.drop (nx + 1)) 0 0).1 = d) (w : World) :
    Calls Tryd.prog 40 #[.string s, .int .i64 ((nx : Int) + 1)] w fun e w' => (∃ z : Int, e = .returned (.tuple #[.int .i64 d, .int .i64 z])) ∧ Below w.heap.size w w' := by
  have k := num_c s (nx + 1) hs hn w
  rw [hd] at k
  exact k.mono fun e w' h => ⟨⟨_, h.1⟩, h.2⟩

set_option maxRecDepth 20000 in
set_option maxHeartbeats 4000000 in
theorem rparse_neg (s : ByteArray) (hs : s.size ≤ 281474976710656) (h0 : 0 < s.size) (hx : s[0]'h0 = 45) (a c nx : Nat) (hp : Parts s true a c nx) (w : World) :
    Calls Tryd.prog 15 #[.string s] w fun e w' => e = .returned (.tuple #[.agg #[.int .i64 (RS s.data.toList).1, .int .i64 (RS s.data.toList).2.1], .int .i64 (RS s.data.toList).2.2]) ∧ Below w.heap.size w w' := by
  have hne : s.data.toList ≠ [] := by
    intro e
    have := congrArg List.length e
    rw [Array.length_toList] at this
    have e2 : s.data.size = s.size := rfl
    simp only [List.length_nil] at this
    omega
  have hse : (s.toList == []) = false := by rw [Lib.toList_data]; cases hl : s.data.toList with | nil => exact absurd hl hne | cons x l => rfl
  have B0 : Below w.heap.size w (w.alloc (.cells #[.int .i64 0, .int .i64 0] 23)) := (Below.refl _ _).alloc (Nat.le_refl _) _
  have HB0 := Lib.hid B0
  have HC0 := Lib.hid (Cel.made w 23 #[.int .i64 0, .int .i64 0])
  have HSZ := Lib.hid hs
  have HNE := Lib.hid (And.intro hne h0)
  have HPT := Lib.hid hp
  have HNU := Lib.hid hp.nu
  simp only [if_true, Bool.false_eq_true, if_false] at HNU
  clear B0 hne hp
  have hn1 := HPT.out.num_c HSZ.out HNE.out.2
  simp only [if_true, Bool.false_eq_true, if_false] at hn1
  go_enter Tryd.func15, Tryd.ntmps15
  go_wp2_with fail
  refine (hn1 _).mono ?_
  clear hn1
  rintro e w1 ⟨rfl, hb1⟩
  have HB1 := Lib.hid (HB0.out.trans (hb1.mono HB0.out.size))
  have HC1 := Lib.hid (HC0.out.below hb1)
  clear hb1
  have nw1 : w.heap.size < w1.heap.size := HC1.out.lt
  have neq : ¬ w.heap.size = w1.heap.size := by omega
  have ha := HPT.out.ha
  have hnx := HPT.out.hx
  have HBW : Hid (Below w.heap.size w (World.alloc w1 (.cells #[.int .i64 (-(a : Int)), .int .i64 1] 23))) := Lib.hid (HB1.out.alloc HB1.out.size _)
  have HCW : Hid (Cel (World.alloc w1 (.cells #[.int .i64 (-(a : Int)), .int .i64 1] 23)) w.heap.size 23 #[.int .i64 0, .int .i64 0]) := Lib.hid (HC1.out.alloc _)
  have HRW : Hid (Cel (World.alloc w1 (.cells #[.int .i64 (-(a : Int)), .int .i64 1] 23)) w1.heap.size 23 #[.int .i64 (-(a : Int)), .int .i64 1]) := Lib.hid (Cel.made w1 _ _)
  by_cases hlt : nx < s.size
  · obtain ⟨y, hy⟩ : ∃ y, s[nx]'hlt = y := ⟨_, rfl⟩
    have hy8 : y.toNat < 256 := y.toNat_lt
    by_cases hyc : y = 47
    · obtain ⟨d, hd1, hde, hdb⟩ := HPT.out.de3 hlt (hy.trans hyc)
      subst hyc
      have hM := den_c s nx d HSZ.out hlt hd1
      clear hd1
      go_wp2_with fail
      refine (hM _).mono ?_
      clear hM
      rintro e w2 ⟨⟨z, rfl⟩, hb2⟩
      have HB2 := Lib.hid (HBW.out.trans (hb2.mono HBW.out.size))
      have HC2 := Lib.hid (HCW.out.below hb2)
      have HR2 := Lib.hid (HRW.out.below hb2)
      clear hb2
      have r0 : World.cell? w2 ⟨w1.heap.size, 0, none⟩ = some (.int .i64 (-(a : Int))) := HR2.out.cell 0
      have r1 : World.cell? w2 ⟨w1.heap.size, 1, none⟩ = some (.int .i64 (1)) := HR2.out.cell 1
      have rf0 := HR2.out.free 0
      have rf1 := HR2.out.free 1
      have rl := HR2.out.lt
      have HB3 : Hid (Below w.heap.size w (World.setCell w2 ⟨w1.heap.size, 1, none⟩ (.int .i64 (d : Int)))) := Lib.hid (HB2.out.setCell (by show w.heap.size ≤ w1.heap.size; omega) _)
      have HC3 : Hid (Cel (World.setCell w2 ⟨w1.heap.size, 1, none⟩ (.int .i64 (d : Int))) w.heap.size 23 #[.int .i64 0, .int .i64 0]) := Lib.hid (HC2.out.far (by show w.heap.size ≠ w1.heap.size; omega) _)
      have HR3 : Hid (Cel (World.setCell w2 ⟨w1.heap.size, 1, none⟩ (.int .i64 (d : Int))) w1.heap.size 23 #[.int .i64 (-(a : Int)), .int .i64 (d : Int)]) := Lib.hid (HR2.out.store 1 _)
      have hq : RS s.data.toList = if FL (-(a : Int)) ((d : Int)) = s.data.toList then (-(a : Int), (d : Int), 0) else (0, 0, 3) := RS_eq HNE.out.1 HNU.out hde
      obtain ⟨bb, hbb⟩ : ∃ bb, decide (FL (-(a : Int)) ((d : Int)) = s.data.toList) = bb := ⟨_, rfl⟩
      have hsb : (FL (-(a : Int)) ((d : Int)) == s.toList) = bb := by
        rw [Lib.toList_data, ← hbb]
        by_cases h : FL (-(a : Int)) ((d : Int)) = s.data.toList
        · rw [h]; simp
        · rw [decide_eq_false h, beq_eq_false_iff_ne.2 h]
      have hq2 : RS s.data.toList = if bb = true then (-(a : Int), (d : Int), 0) else (0, 0, 3) := by
        rw [hq, ← hbb]
        simp
      have HS := Lib.hid hsb
      have HQ2 := Lib.hid hq2
      clear hq hbb hsb hde hq2
      go_wp2_with fail
      refine (rfmt_c (-(a : Int)) ((d : Int)) (by omega) (by omega) _).mono ?_
      rintro e w5 ⟨rfl, hb5⟩
      have HB5 := Lib.hid (HB3.out.trans (hb5.mono (HB3.out).size))
      have HC5 := Lib.hid ((HC3.out).below hb5)
      have HR5 := Lib.hid ((HR3.out).below hb5)
      clear hb5
      clear r0 r1 rf0 rf1 rl
      have k0 : World.cell? w5 ⟨w.heap.size, 0, none⟩ = some (.int .i64 0) := HC5.out.cell 0
      have k1 : World.cell? w5 ⟨w.heap.size, 1, none⟩ = some (.int .i64 0) := HC5.out.cell 1
      have f0 := HC5.out.free 0
      have f1 := HC5.out.free 1
      have kl := HC5.out.lt
      have r0 : World.cell? w5 ⟨w1.heap.size, 0, none⟩ = some (.int .i64 (-(a : Int))) := HR5.out.cell 0
      have r1 : World.cell? w5 ⟨w1.heap.size, 1, none⟩ = some (.int .i64 ((d : Int))) := HR5.out.cell 1
      have rf0 := HR5.out.free 0
      have rf1 := HR5.out.free 1
      have rl := HR5.out.lt
      have hsb := HS.out
      have hq2 := HQ2.out
      cases bb
      · have HR := Lib.hid (show RS s.data.toList = (0, 0, 3) from hq2)
        clear hq2
        have HBZ := HB5
        go_wp2
        refine bodyPost_ret (v := .tuple #[.agg #[.int .i64 (0), .int .i64 (0)], .int .i64 3]) (by simp [results, Tryd.results15, go_sem, *]) rfl ⟨ret_rat4 HR.out, ?_⟩
        (repeat' (first | (with_reducible exact Below.refl _ _) | (with_reducible exact HBZ.out) | (with_reducible refine Below.alloc ?_ ?_ _) | (with_reducible refine below_drewN' ?_ _) | (with_reducible refine Below.drew ?_) | (with_reducible refine Below.setCell ?_ ?_ _) | go_size))
      · have HR := Lib.hid (show RS s.data.toList = (-(a : Int), (d : Int), 0) from hq2)
        clear hq2
        have HBZ := HB5
        go_wp2
        refine bodyPost_ret (v := .tuple #[.agg #[.int .i64 (-(a : Int)), .int .i64 ((d : Int))], .int .i64 0]) (by simp [results, Tryd.results15, go_sem, *]) rfl ⟨ret_rat4 HR.out, ?_⟩
        (repeat' (first | (with_reducible exact Below.refl _ _) | (with_reducible exact HBZ.out) | (with_reducible refine Below.alloc ?_ ?_ _) | (with_reducible refine below_drewN' ?_ _) | (with_reducible refine Below.drew ?_) | (with_reducible refine Below.setCell ?_ ?_ _) | go_size))
    · have hde := HPT.out.de2 hlt (by rw [hy]; exact hyc)
      have hyn : ¬ y.toNat = 47 := fun e => hyc (UInt8.toNat_inj.1 e)
      clear hyc
      have hq : RS s.data.toList = if FL (-(a : Int)) (1) = s.data.toList then (-(a : Int), 1, 0) else (0, 0, 3) := RS_eq HNE.out.1 HNU.out hde
      obtain ⟨bb, hbb⟩ : ∃ bb, decide (FL (-(a : Int)) (1) = s.data.toList) = bb := ⟨_, rfl⟩
      have hsb : (FL (-(a : Int)) (1) == s.toList) = bb := by
        rw [Lib.toList_data, ← hbb]
        by_cases h : FL (-(a : Int)) (1) = s.data.toList
        · rw [h]; simp
        · rw [decide_eq_false h, beq_eq_false_iff_ne.2 h]
      have hq2 : RS s.data.toList = if bb = true then (-(a : Int), 1, 0) else (0, 0, 3) := by
        rw [hq, ← hbb]
        simp
      have HS := Lib.hid hsb
      have HQ2 := Lib.hid hq2
      clear hq hbb hsb hde hq2
      go_wp2_with fail
      refine (rfmt_c (-(a : Int)) (1) (by omega) (by omega) _).mono ?_
      rintro e w5 ⟨rfl, hb5⟩
      have HB5 := Lib.hid (HBW.out.trans (hb5.mono (HBW.out).size))
      have HC5 := Lib.hid ((HCW.out).below hb5)
      have HR5 := Lib.hid ((HRW.out).below hb5)
      clear hb5
      have k0 : World.cell? w5 ⟨w.heap.size, 0, none⟩ = some (.int .i64 0) := HC5.out.cell 0
      have k1 : World.cell? w5 ⟨w.heap.size, 1, none⟩ = some (.int .i64 0) := HC5.out.cell 1
      have f0 := HC5.out.free 0
      have f1 := HC5.out.free 1
      have kl := HC5.out.lt
      have r0 : World.cell? w5 ⟨w1.heap.size, 0, none⟩ = some (.int .i64 (-(a : Int))) := HR5.out.cell 0
      have r1 : World.cell? w5 ⟨w1.heap.size, 1, none⟩ = some (.int .i64 (1)) := HR5.out.cell 1
      have rf0 := HR5.out.free 0
      have rf1 := HR5.out.free 1
      have rl := HR5.out.lt
      have hsb := HS.out
      have hq2 := HQ2.out
      cases bb
      · have HR := Lib.hid (show RS s.data.toList = (0, 0, 3) from hq2)
        clear hq2
        have HBZ := HB5
        go_wp2
        refine bodyPost_ret (v := .tuple #[.agg #[.int .i64 (0), .int .i64 (0)], .int .i64 3]) (by simp [results, Tryd.results15, go_sem, *]) rfl ⟨ret_rat4 HR.out, ?_⟩
        (repeat' (first | (with_reducible exact Below.refl _ _) | (with_reducible exact HBZ.out) | (with_reducible refine Below.alloc ?_ ?_ _) | (with_reducible refine below_drewN' ?_ _) | (with_reducible refine Below.drew ?_) | (with_reducible refine Below.setCell ?_ ?_ _) | go_size))
      · have HR := Lib.hid (show RS s.data.toList = (-(a : Int), 1, 0) from hq2)
        clear hq2
        have HBZ := HB5
        go_wp2
        refine bodyPost_ret (v := .tuple #[.agg #[.int .i64 (-(a : Int)), .int .i64 (1)], .int .i64 0]) (by simp [results, Tryd.results15, go_sem, *]) rfl ⟨ret_rat4 HR.out, ?_⟩
        (repeat' (first | (with_reducible exact Below.refl _ _) | (with_reducible exact HBZ.out) | (with_reducible refine Below.alloc ?_ ?_ _) | (with_reducible refine below_drewN' ?_ _) | (with_reducible refine Below.drew ?_) | (with_reducible refine Below.setCell ?_ ?_ _) | go_size))
  · have hde := HPT.out.de1 hlt
    have hq : RS s.data.toList = if FL (-(a : Int)) (1) = s.data.toList then (-(a : Int), 1, 0) else (0, 0, 3) := RS_eq HNE.out.1 HNU.out hde
    obtain ⟨bb, hbb⟩ : ∃ bb, decide (FL (-(a : Int)) (1) = s.data.toList) = bb := ⟨_, rfl⟩
    have hsb : (FL (-(a : Int)) (1) == s.toList) = bb := by
      rw [Lib.toList_data, ← hbb]
      by_cases h : FL (-(a : Int)) (1) = s.data.toList
      · rw [h]; simp
      · rw [decide_eq_false h, beq_eq_false_iff_ne.2 h]
    have hq2 : RS s.data.toList = if bb = true then (-(a : Int), 1, 0) else (0, 0, 3) := by
      rw [hq, ← hbb]
      simp
    have HS := Lib.hid hsb
    have HQ2 := Lib.hid hq2
    clear hq hbb hsb hde hq2
    go_wp2_with fail
    refine (rfmt_c (-(a : Int)) (1) (by omega) (by omega) _).mono ?_
    rintro e w5 ⟨rfl, hb5⟩
    have HB5 := Lib.hid (HBW.out.trans (hb5.mono (HBW.out).size))
    have HC5 := Lib.hid ((HCW.out).below hb5)
    have HR5 := Lib.hid ((HRW.out).below hb5)
    clear hb5
    have k0 : World.cell? w5 ⟨w.heap.size, 0, none⟩ = some (.int .i64 0) := HC5.out.cell 0
    have k1 : World.cell? w5 ⟨w.heap.size, 1, none⟩ = some (.int .i64 0) := HC5.out.cell 1
    have f0 := HC5.out.free 0
    have f1 := HC5.out.free 1
    have kl := HC5.out.lt
    have r0 : World.cell? w5 ⟨w1.heap.size, 0, none⟩ = some (.int .i64 (-(a : Int))) := HR5.out.cell 0
    have r1 : World.cell? w5 ⟨w1.heap.size, 1, none⟩ = some (.int .i64 (1)) := HR5.out.cell 1
    have rf0 := HR5.out.free 0
    have rf1 := HR5.out.free 1
    have rl := HR5.out.lt
    have hsb := HS.out
    have hq2 := HQ2.out
    cases bb
    · have HR := Lib.hid (show RS s.data.toList = (0, 0, 3) from hq2)
      clear hq2
      have HBZ := HB5
      go_wp2
      refine bodyPost_ret (v := .tuple #[.agg #[.int .i64 (0), .int .i64 (0)], .int .i64 3]) (by simp [results, Tryd.results15, go_sem, *]) rfl ⟨ret_rat4 HR.out, ?_⟩
      (repeat' (first | (with_reducible exact Below.refl _ _) | (with_reducible exact HBZ.out) | (with_reducible refine Below.alloc ?_ ?_ _) | (with_reducible refine below_drewN' ?_ _) | (with_reducible refine Below.drew ?_) | (with_reducible refine Below.setCell ?_ ?_ _) | go_size))
    · have HR := Lib.hid (show RS s.data.toList = (-(a : Int), 1, 0) from hq2)
      clear hq2
      have HBZ := HB5
      go_wp2
      refine bodyPost_ret (v := .tuple #[.agg #[.int .i64 (-(a : Int)), .int .i64 (1)], .int .i64 0]) (by simp [results, Tryd.results15, go_sem, *]) rfl ⟨ret_rat4 HR.out, ?_⟩
      (repeat' (first | (with_reducible exact Below.refl _ _) | (with_reducible exact HBZ.out) | (with_reducible refine Below.alloc ?_ ?_ _) | (with_reducible refine below_drewN' ?_ _) | (with_reducible refine Below.drew ?_) | (with_reducible refine Below.setCell ?_ ?_ _) | go_size))

set_option maxRecDepth 20000 in
set_option maxHeartbeats 4000000 in
theorem rparse_pos (s : ByteArray) (hs : s.size ≤ 281474976710656) (h0 : 0 < s.size) (x : UInt8) (hx : s[0]'h0 = x) (hxn : ¬ x.toNat = 45) (a c nx : Nat) (hp : Parts s false a c nx) (w : World) :
    Calls Tryd.prog 15 #[.string s] w fun e w' => e = .returned (.tuple #[.agg #[.int .i64 (RS s.data.toList).1, .int .i64 (RS s.data.toList).2.1], .int .i64 (RS s.data.toList).2.2]) ∧ Below w.heap.size w w' := by
  have hne : s.data.toList ≠ [] := by
    intro e
    have := congrArg List.length e
    rw [Array.length_toList] at this
    have e2 : s.data.size = s.size := rfl
    simp only [List.length_nil] at this
    omega
  have hse : (s.toList == []) = false := by rw [Lib.toList_data]; cases hl : s.data.toList with | nil => exact absurd hl hne | cons x l => rfl
  have B0 : Below w.heap.size w (w.alloc (.cells #[.int .i64 0, .int .i64 0] 23)) := (Below.refl _ _).alloc (Nat.le_refl _) _
  have HB0 := Lib.hid B0
  have HC0 := Lib.hid (Cel.made w 23 #[.int .i64 0, .int .i64 0])
  have HSZ := Lib.hid hs
  have HNE := Lib.hid (And.intro hne h0)
  have HPT := Lib.hid hp
  have HNU := Lib.hid hp.nu
  simp only [if_true, Bool.false_eq_true, if_false] at HNU
  clear B0 hne hp
  have hn1 := HPT.out.num_c HSZ.out HNE.out.2
  simp only [if_true, Bool.false_eq_true, if_false] at hn1
  go_enter Tryd.func15, Tryd.ntmps15
  go_wp2_with fail
  refine (hn1 _).mono ?_
  clear hn1
  rintro e w1 ⟨rfl, hb1⟩
  have HB1 := Lib.hid (HB0.out.trans (hb1.mono HB0.out.size))
  have HC1 := Lib.hid (HC0.out.below hb1)
  clear hb1
  have nw1 : w.heap.size < w1.heap.size := HC1.out.lt
  have neq : ¬ w.heap.size = w1.heap.size := by omega
  have ha := HPT.out.ha
  have hnx := HPT.out.hx
  have HBW : Hid (Below w.heap.size w (World.alloc w1 (.cells #[.int .i64 ((a : Int)), .int .i64 1] 23))) := Lib.hid (HB1.out.alloc HB1.out.size _)
  have HCW : Hid (Cel (World.alloc w1 (.cells #[.int .i64 ((a : Int)), .int .i64 1] 23)) w.heap.size 23 #[.int .i64 0, .int .i64 0]) := Lib.hid (HC1.out.alloc _)
  have HRW : Hid (Cel (World.alloc w1 (.cells #[.int .i64 ((a : Int)), .int .i64 1] 23)) w1.heap.size 23 #[.int .i64 ((a : Int)), .int .i64 1]) := Lib.hid (Cel.made w1 _ _)
  by_cases hlt : nx < s.size
  · obtain ⟨y, hy⟩ : ∃ y, s[nx]'hlt = y := ⟨_, rfl⟩
    have hy8 : y.toNat < 256 := y.toNat_lt
    by_cases hyc : y = 47
    · obtain ⟨d, hd1, hde, hdb⟩ := HPT.out.de3 hlt (hy.trans hyc)
      subst hyc
      have hM := den_c s nx d HSZ.out hlt hd1
      clear hd1
      go_wp2_with fail
      refine (hM _).mono ?_
      clear hM
      rintro e w2 ⟨⟨z, rfl⟩, hb2⟩
      have HB2 := Lib.hid (HBW.out.trans (hb2.mono HBW.out.size))
      have HC2 := Lib.hid (HCW.out.below hb2)
      have HR2 := Lib.hid (HRW.out.below hb2)
      clear hb2
      have r0 : World.cell? w2 ⟨w1.heap.size, 0, none⟩ = some (.int .i64 ((a : Int))) := HR2.out.cell 0
      have r1 : World.cell? w2 ⟨w1.heap.size, 1, none⟩ = some (.int .i64 (1)) := HR2.out.cell 1
      have rf0 := HR2.out.free 0
      have rf1 := HR2.out.free 1
      have rl := HR2.out.lt
      have HB3 : Hid (Below w.heap.size w (World.setCell w2 ⟨w1.heap.size, 1, none⟩ (.int .i64 (d : Int)))) := Lib.hid (HB2.out.setCell (by show w.heap.size ≤ w1.heap.size; omega) _)
      have HC3 : Hid (Cel (World.setCell w2 ⟨w1.heap.size, 1, none⟩ (.int .i64 (d : Int))) w.heap.size 23 #[.int .i64 0, .int .i64 0]) := Lib.hid (HC2.out.far (by show w.heap.size ≠ w1.heap.size; omega) _)
      have HR3 : Hid (Cel (World.setCell w2 ⟨w1.heap.size, 1, none⟩ (.int .i64 (d : Int))) w1.heap.size 23 #[.int .i64 ((a : Int)), .int .i64 (d : Int)]) := Lib.hid (HR2.out.store 1 _)
      have hq : RS s.data.toList = if FL ((a : Int)) ((d : Int)) = s.data.toList then ((a : Int), (d : Int), 0) else (0, 0, 3) := RS_eq HNE.out.1 HNU.out hde
      obtain ⟨bb, hbb⟩ : ∃ bb, decide (FL ((a : Int)) ((d : Int)) = s.data.toList) = bb := ⟨_, rfl⟩
      have hsb : (FL ((a : Int)) ((d : Int)) == s.toList) = bb := by
        rw [Lib.toList_data, ← hbb]
        by_cases h : FL ((a : Int)) ((d : Int)) = s.data.toList
        · rw [h]; simp
        · rw [decide_eq_false h, beq_eq_false_iff_ne.2 h]
      have hq2 : RS s.data.toList = if bb = true then ((a : Int), (d : Int), 0) else (0, 0, 3) := by
        rw [hq, ← hbb]
        simp
      have HS := Lib.hid hsb
      have HQ2 := Lib.hid hq2
      clear hq hbb hsb hde hq2
      go_wp2_with fail
      refine (rfmt_c ((a : Int)) ((d : Int)) (by omega) (by omega) _).mono ?_
      rintro e w5 ⟨rfl, hb5⟩
      have HB5 := Lib.hid (HB3.out.trans (hb5.mono (HB3.out).size))
      have HC5 := Lib.hid ((HC3.out).below hb5)
      have HR5 := Lib.hid ((HR3.out).below hb5)
      clear hb5
      clear r0 r1 rf0 rf1 rl
      have k0 : World.cell? w5 ⟨w.heap.size, 0, none⟩ = some (.int .i64 0) := HC5.out.cell 0
      have k1 : World.cell? w5 ⟨w.heap.size, 1, none⟩ = some (.int .i64 0) := HC5.out.cell 1
      have f0 := HC5.out.free 0
      have f1 := HC5.out.free 1
      have kl := HC5.out.lt
      have r0 : World.cell? w5 ⟨w1.heap.size, 0, none⟩ = some (.int .i64 ((a : Int))) := HR5.out.cell 0
      have r1 : World.cell? w5 ⟨w1.heap.size, 1, none⟩ = some (.int .i64 ((d : Int))) := HR5.out.cell 1
      have rf0 := HR5.out.free 0
      have rf1 := HR5.out.free 1
      have rl := HR5.out.lt
      have hsb := HS.out
      have hq2 := HQ2.out
      cases bb
      · have HR := Lib.hid (show RS s.data.toList = (0, 0, 3) from hq2)
        clear hq2
        have HBZ := HB5
        go_wp2
        refine bodyPost_ret (v := .tuple #[.agg #[.int .i64 (0), .int .i64 (0)], .int .i64 3]) (by simp [results, Tryd.results15, go_sem, *]) rfl ⟨ret_rat4 HR.out, ?_⟩
        (repeat' (first | (with_reducible exact Below.refl _ _) | (with_reducible exact HBZ.out) | (with_reducible refine Below.alloc ?_ ?_ _) | (with_reducible refine below_drewN' ?_ _) | (with_reducible refine Below.drew ?_) | (with_reducible refine Below.setCell ?_ ?_ _) | go_size))
      · have HR := Lib.hid (show RS s.data.toList = ((a : Int), (d : Int), 0) from hq2)
        clear hq2
        have HBZ := HB5
        go_wp2
        refine bodyPost_ret (v := .tuple #[.agg #[.int .i64 ((a : Int)), .int .i64 ((d : Int))], .int .i64 0]) (by simp [results, Tryd.results15, go_sem, *]) rfl ⟨ret_rat4 HR.out, ?_⟩
        (repeat' (first | (with_reducible exact Below.refl _ _) | (with_reducible exact HBZ.out) | (with_reducible refine Below.alloc ?_ ?_ _) | (with_reducible refine below_drewN' ?_ _) | (with_reducible refine Below.drew ?_) | (with_reducible refine Below.setCell ?_ ?_ _) | go_size))
    · have hde := HPT.out.de2 hlt (by rw [hy]; exact hyc)
      have hyn : ¬ y.toNat = 47 := fun e => hyc (UInt8.toNat_inj.1 e)
      clear hyc
      have hq : RS s.data.toList = if FL ((a : Int)) (1) = s.data.toList then ((a : Int), 1, 0) else (0, 0, 3) := RS_eq HNE.out.1 HNU.out hde
      obtain ⟨bb, hbb⟩ : ∃ bb, decide (FL ((a : Int)) (1) = s.data.toList) = bb := ⟨_, rfl⟩
      have hsb : (FL ((a : Int)) (1) == s.toList) = bb := by
        rw [Lib.toList_data, ← hbb]
        by_cases h : FL ((a : Int)) (1) = s.data.toList
        · rw [h]; simp
        · rw [decide_eq_false h, beq_eq_false_iff_ne.2 h]
      have hq2 : RS s.data.toList = if bb = true then ((a : Int), 1, 0) else (0, 0, 3) := by
        rw [hq, ← hbb]
        simp
      have HS := Lib.hid hsb
      have HQ2 := Lib.hid hq2
      clear hq hbb hsb hde hq2
      go_wp2_with fail
      refine (rfmt_c ((a : Int)) (1) (by omega) (by omega) _).mono ?_
      rintro e w5 ⟨rfl, hb5⟩
      have HB5 := Lib.hid (HBW.out.trans (hb5.mono (HBW.out).size))
      have HC5 := Lib.hid ((HCW.out).below hb5)
      have HR5 := Lib.hid ((HRW.out).below hb5)
      clear hb5
      have k0 : World.cell? w5 ⟨w.heap.size, 0, none⟩ = some (.int .i64 0) := HC5.out.cell 0
      have k1 : World.cell? w5 ⟨w.heap.size, 1, none⟩ = some (.int .i64 0) := HC5.out.cell 1
      have f0 := HC5.out.free 0
      have f1 := HC5.out.free 1
      have kl := HC5.out.lt
      have r0 : World.cell? w5 ⟨w1.heap.size, 0, none⟩ = some (.int .i64 ((a : Int))) := HR5.out.cell 0
      have r1 : World.cell? w5 ⟨w1.heap.size, 1, none⟩ = some (.int .i64 (1)) := HR5.out.cell 1
      have rf0 := HR5.out.free 0
      have rf1 := HR5.out.free 1
      have rl := HR5.out.lt
      have hsb := HS.out
      have hq2 := HQ2.out
      cases bb
      · have HR := Lib.hid (show RS s.data.toList = (0, 0, 3) from hq2)
        clear hq2
        have HBZ := HB5
        go_wp2
        refine bodyPost_ret (v := .tuple #[.agg #[.int .i64 (0), .int .i64 (0)], .int .i64 3]) (by simp [results, Tryd.results15, go_sem, *]) rfl ⟨ret_rat4 HR.out, ?_⟩
        (repeat' (first | (with_reducible exact Below.refl _ _) | (with_reducible exact HBZ.out) | (with_reducible refine Below.alloc ?_ ?_ _) | (with_reducible refine below_drewN' ?_ _) | (with_reducible refine Below.drew ?_) | (with_reducible refine Below.setCell ?_ ?_ _) | go_size))
      · have HR := Lib.hid (show RS s.data.toList = ((a : Int), 1, 0) from hq2)
        clear hq2
        have HBZ := HB5
        go_wp2
        refine bodyPost_ret (v := .tuple #[.agg #[.int .i64 ((a : Int)), .int .i64 (1)], .int .i64 0]) (by simp [results, Tryd.results15, go_sem, *]) rfl ⟨ret_rat4 HR.out, ?_⟩
        (repeat' (first | (with_reducible exact Below.refl _ _) | (with_reducible exact HBZ.out) | (with_reducible refine Below.alloc ?_ ?_ _) | (with_reducible refine below_drewN' ?_ _) | (with_reducible refine Below.drew ?_) | (with_reducible refine Below.setCell ?_ ?_ _) | go_size))
  · have hde := HPT.out.de1 hlt
    have hq : RS s.data.toList = if FL ((a : Int)) (1) = s.data.toList then ((a : Int), 1, 0) else (0, 0, 3) := RS_eq HNE.out.1 HNU.out hde
    obtain ⟨bb, hbb⟩ : ∃ bb, decide (FL ((a : Int)) (1) = s.data.toList) = bb := ⟨_, rfl⟩
    have hsb : (FL ((a : Int)) (1) == s.toList) = bb := by
      rw [Lib.toList_data, ← hbb]
      by_cases h : FL ((a : Int)) (1) = s.data.toList
      · rw [h]; simp
      · rw [decide_eq_false h, beq_eq_false_iff_ne.2 h]
    have hq2 : RS s.data.toList = if bb = true then ((a : Int), 1, 0) else (0, 0, 3) := by
      rw [hq, ← hbb]
      simp
    have HS := Lib.hid hsb
    have HQ2 := Lib.hid hq2
    clear hq hbb hsb hde hq2
    go_wp2_with fail
    refine (rfmt_c ((a : Int)) (1) (by omega) (by omega) _).mono ?_
    rintro e w5 ⟨rfl, hb5⟩
    have HB5 := Lib.hid (HBW.out.trans (hb5.mono (HBW.out).size))
    have HC5 := Lib.hid ((HCW.out).below hb5)
    have HR5 := Lib.hid ((HRW.out).below hb5)
    clear hb5
    have k0 : World.cell? w5 ⟨w.heap.size, 0, none⟩ = some (.int .i64 0) := HC5.out.cell 0
    have k1 : World.cell? w5 ⟨w.heap.size, 1, none⟩ = some (.int .i64 0) := HC5.out.cell 1
    have f0 := HC5.out.free 0
    have f1 := HC5.out.free 1
    have kl := HC5.out.lt
    have r0 : World.cell? w5 ⟨w1.heap.size, 0, none⟩ = some (.int .i64 ((a : Int))) := HR5.out.cell 0
    have r1 : World.cell? w5 ⟨w1.heap.size, 1, none⟩ = some (.int .i64 (1)) := HR5.out.cell 1
    have rf0 := HR5.out.free 0
    have rf1 := HR5.out.free 1
    have rl := HR5.out.lt
    have hsb := HS.out
    have hq2 := HQ2.out
    cases bb
    · have HR := Lib.hid (show RS s.data.toList = (0, 0, 3) from hq2)
      clear hq2
      have HBZ := HB5
      go_wp2
      refine bodyPost_ret (v := .tuple #[.agg #[.int .i64 (0), .int .i64 (0)], .int .i64 3]) (by simp [results, Tryd.results15, go_sem, *]) rfl ⟨ret_rat4 HR.out, ?_⟩
      (repeat' (first | (with_reducible exact Below.refl _ _) | (with_reducible exact HBZ.out) | (with_reducible refine Below.alloc ?_ ?_ _) | (with_reducible refine below_drewN' ?_ _) | (with_reducible refine Below.drew ?_) | (with_reducible refine Below.setCell ?_ ?_ _) | go_size))
    · have HR := Lib.hid (show RS s.data.toList = ((a : Int), 1, 0) from hq2)
      clear hq2
      have HBZ := HB5
      go_wp2
      refine bodyPost_ret (v := .tuple #[.agg #[.int .i64 ((a : Int)), .int .i64 (1)], .int .i64 0]) (by simp [results, Tryd.results15, go_sem, *]) rfl ⟨ret_rat4 HR.out, ?_⟩
      (repeat' (first | (with_reducible exact Below.refl _ _) | (with_reducible exact HBZ.out) | (with_reducible refine Below.alloc ?_ ?_ _) | (with_reducible refine below_drewN' ?_ _) | (with_reducible refine Below.drew ?_) | (with_reducible refine Below.setCell ?_ ?_ _) | go_size))

end Go.Proofs.YthcgcmmkajjhhaaDoor
