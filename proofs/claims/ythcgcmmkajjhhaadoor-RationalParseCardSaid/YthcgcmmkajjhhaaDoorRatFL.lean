/- The laws RationalFormat and RationalParse as contracts; what the listed variables give. -/
import Derived.Test.YthcgcmmkajjhhaaDoorRatFP
import Derived.Test.YthcgcmmkajjhhaaDoorRatFR
import Derived.Test.YthcgcmmkajjhhaaDoorRatAw
import Derived.Test.YthcgcmmkajjhhaaDoorRows
import Derived.Lib.LaidTab
namespace Go.Proofs.YthcgcmmkajjhhaaDoor
set_option linter.unusedVariables false
set_option linter.unusedSimpArgs false
open Go.ChangeShapes Go.WideShapes Go.RowKit

theorem den_len {l : List UInt8} : (cutL l).1.length ≤ l.length ∧ (cutL l).2.1.length ≤ l.length := by
  unfold cutL
  split
  · simp only [List.length_take, List.length_drop]; omega
  · simp
set_option maxHeartbeats 1000000 in
theorem parse_c (s : ByteArray) (hs : s.size ≤ 281474976710656) (w : World) (hP : Pw w) (hE : Es w) :
    Calls Tryd.prog 13 #[.string s] w fun e w' => e = .returned (.tuple #[.agg #[.int .i64 (PS s.data.toList).1, .int .i64 (PS s.data.toList).2.1], .int .i64 (PS s.data.toList).2.2]) ∧ Below w.heap.size w w' := by
  have hl : s.data.toList.length = s.size := by rw [Array.length_toList]; rfl
  obtain ⟨b1, b2⟩ := den_len (l := s.data.toList)
  refine parse_g s (cutL s.data.toList).2.2 (cutL s.data.toList).1 (cutL s.data.toList).2.1 (denL s.data.toList) (PS s.data.toList) (by omega) (by omega) (fun w => cut_c s hs w) rfl (fun n d h1 h2 => PS_ok h1 h2) PS_no1 PS_no2 w hP hE

set_option maxRecDepth 20000 in
set_option maxHeartbeats 1000000 in
theorem rparse_nil (w : World) :
    Calls Tryd.prog 15 #[.string ⟨#[]⟩] w fun e w' => e = .returned (.tuple #[.agg #[.int .i64 0, .int .i64 0], .int .i64 3]) ∧ Below w.heap.size w w' := by
  have HB0 := Lib.hid (show Below w.heap.size w (w.alloc (.cells #[.int .i64 0, .int .i64 0] 23)) from (Below.refl _ _).alloc (Nat.le_refl _) _)
  have HC0 := Lib.hid (Cel.made w 23 #[.int .i64 0, .int .i64 0])
  have hn : ∀ w, Calls Tryd.prog 40 #[.string ⟨#[]⟩, .int .i64 0] w fun e w' => e = .returned (.tuple #[.int .i64 0, .int .i64 0]) ∧ Below w.heap.size w w' := fun w => num_c ⟨#[]⟩ 0 (by decide) (by decide) w
  go_enter Tryd.func15, Tryd.ntmps15
  go_wp2_with fail
  refine (hn _).mono ?_
  clear hn
  rintro e w1 ⟨rfl, hb1⟩
  have HB1 := Lib.hid (HB0.out.trans (hb1.mono HB0.out.size))
  have HC1 := Lib.hid (HC0.out.below hb1)
  clear hb1
  have nw1 : w.heap.size < w1.heap.size := HC1.out.lt
  have neq : ¬ w.heap.size = w1.heap.size := by omega
  have k0 : World.cell? w1 ⟨w.heap.size, 0, none⟩ = some (.int .i64 0) := HC1.out.cell 0
  have k1 : World.cell? w1 ⟨w.heap.size, 1, none⟩ = some (.int .i64 0) := HC1.out.cell 1
  have f0 := HC1.out.free 0
  have f1 := HC1.out.free 1
  go_wp2
  refine bodyPost_ret (v := .tuple #[.agg #[.int .i64 0, .int .i64 0], .int .i64 3]) (by simp [results, Tryd.results15, go_sem, *]) rfl ⟨rfl, ?_⟩
  (repeat' (first | (with_reducible exact Below.refl _ _) | (with_reducible exact HB1.out) | (with_reducible refine Below.alloc ?_ ?_ _) | (with_reducible refine below_drewN' ?_ _) | (with_reducible refine Below.drew ?_) | (with_reducible refine Below.setCell ?_ ?_ _) | go_size))

theorem rparse_c (s : ByteArray) (hs : s.size ≤ 281474976710656) (w : World) :
    Calls Tryd.prog 15 #[.string s] w fun e w' => e = .returned (.tuple #[.agg #[.int .i64 (RS s.data.toList).1, .int .i64 (RS s.data.toList).2.1], .int .i64 (RS s.data.toList).2.2]) ∧ Below w.heap.size w w' := by
  by_cases h0 : 0 < s.size
  · have hh : s.data.toList.head? = some s[0] := by rw [← getl 0 h0]; exact List.head?_eq_getElem?
    by_cases hx : s[0] = 45
    · have hg : sgL s.data.toList = if true = true then 1 else 0 := by unfold sgL; rw [hh, hx]; rfl
      obtain ⟨a, c, nx, hp⟩ := parts s h0 true hg
      exact rparse_neg s hs h0 hx a c nx hp w
    · have hg : sgL s.data.toList = if false = true then 1 else 0 := by unfold sgL; rw [hh, if_neg (by simpa using hx)]; rfl
      obtain ⟨a, c, nx, hp⟩ := parts s h0 false hg
      exact rparse_pos s hs h0 _ rfl (fun e => hx (UInt8.toNat_inj.1 e)) a c nx hp w
  · have hn : s = ⟨#[]⟩ := by
      have hz : s.data.size = 0 := by have e : s.data.size = s.size := rfl; omega
      obtain ⟨d⟩ := s
      have := Array.eq_empty_of_size_eq_zero hz
      simp only at this
      rw [this]
    subst hn
    have := rparse_nil w
    have e : RS ((⟨#[]⟩ : ByteArray).data.toList) = (0, 0, 3) := RS_nil
    rw [e]
    exact this

set_option maxHeartbeats 1000000 in
theorem lawParse_c (s : ByteArray) (hs : s.size ≤ 281474976710656) (w : World) (hP : Pw w) (hE : Es w) :
    Calls Tryd.prog 5 #[.string s] w fun e w' => e = .returned (.bool true) ∧ Below w.heap.size w w' := by
  have hp := fun w h1 h2 => parse_c s hs w h1 h2
  have hr := rparse_c s hs
  have hT : ∀ w', Below w.heap.size w w' → Pw w' ∧ Es w' := fun w' h => ⟨hP.to h (Nat.le_refl _), hE.to h (Nat.le_refl _)⟩
  rw [PS_RS] at hp
  obtain ⟨q1, q2, q3, hq⟩ : ∃ q1 q2 q3, RS s.data.toList = (q1, q2, q3) := ⟨_, _, _, rfl⟩
  rw [hq] at hp hr
  have HT := Lib.hid hT
  have HW := Lib.hid (And.intro hP hE)
  clear hT hP hE hq
  go_enter Tryd.func5, Tryd.ntmps5
  go_wp2_with fail
  refine (hp _ HW.out.1 HW.out.2).mono ?_
  clear hp
  rintro e w1 ⟨rfl, hb1⟩
  have HB1 := Lib.hid hb1
  clear hb1
  have HBa := Lib.hid (HB1.out.alloc HB1.out.size (.cells #[.int .i64 q1, .int .i64 q2] 23))
  have HCa := Lib.hid (Cel.made w1 23 #[.int .i64 q1, .int .i64 q2])
  go_wp2_with fail
  refine (hr _).mono ?_
  clear hr
  rintro e w2 ⟨rfl, hb2⟩
  have HB2 := Lib.hid (HBa.out.trans (hb2.mono HBa.out.size))
  have HC2 := Lib.hid (HCa.out.below hb2)
  clear hb2
  have HBb := Lib.hid (HB2.out.alloc HB2.out.size (.cells #[.int .i64 q1, .int .i64 q2] 23))
  have HCb := Lib.hid (HC2.out.alloc (.cells #[.int .i64 q1, .int .i64 q2] 23))
  have HDb := Lib.hid (Cel.made w2 23 #[.int .i64 q1, .int .i64 q2])
  go_wp2_with fail
  refine (awake_c _).mono ?_
  rintro e w3 ⟨rfl, hb3⟩
  have HB3 := Lib.hid (HBb.out.trans (hb3.mono HBb.out.size))
  have k0 : World.cell? w3 ⟨w1.heap.size, 0, none⟩ = some (.int .i64 q1) := (HCb.out.below hb3).cell 0
  have k1 : World.cell? w3 ⟨w1.heap.size, 1, none⟩ = some (.int .i64 q2) := (HCb.out.below hb3).cell 1
  have m0 : World.cell? w3 ⟨w2.heap.size, 0, none⟩ = some (.int .i64 q1) := (HDb.out.below hb3).cell 0
  have m1 : World.cell? w3 ⟨w2.heap.size, 1, none⟩ = some (.int .i64 q2) := (HDb.out.below hb3).cell 1
  clear hb3
  go_wp2
  go_ret
  exact ⟨rfl, HB3.out⟩

theorem PS_nil : PS [] = (0, 0, 3) := by rw [PS_RS, RS_nil]

set_option maxHeartbeats 1000000 in
theorem lawFormat_c (n d : Int) (hn : -9223372036854775808 ≤ n ∧ n ≤ 9223372036854775807) (hd : -9223372036854775808 ≤ d ∧ d ≤ 9223372036854775807) (w : World) (hP : Pw w) (hE : Es w) :
    Calls Tryd.prog 4 #[.agg #[.int .i64 n, .int .i64 d]] w fun e w' => e = .returned (.bool true) ∧ Below w.heap.size w w' := by
  have hz : (⟨(FL n d).toArray⟩ : ByteArray).size ≤ 281474976710656 := by
    show (FL n d).length ≤ _
    have l1 := itoa_len n hn
    have l2 := itoa_len d hd
    cases k : RM.ok n d
    · rw [FL_bad k]; decide
    · by_cases h1 : d = 1
      · rw [FL_one k h1]; omega
      · rw [FL_two k h1]; simp only [List.length_append, List.length_cons, List.length_nil]; omega
  have hf := fmt_c n d hn hd
  have hr := rfmt_c n d hn hd
  have hp := fun w h1 h2 => parse_c ⟨(FL n d).toArray⟩ hz w h1 h2
  have hT : ∀ w', Below w.heap.size w w' → Pw w' ∧ Es w' := fun w' h => ⟨hP.to h (Nat.le_refl _), hE.to h (Nat.le_refl _)⟩
  have hq : ∀ kv, RM.ok n d = kv → PS (⟨(FL n d).toArray⟩ : ByteArray).data.toList = if kv = true then (n, d, 0) else (0, 0, 3) := by
    intro kv h
    cases kv
    · show PS (FL n d) = _
      rw [FL_bad h]; exact PS_nil
    · exact PS_FL h hn hd
  have HT := Lib.hid hT
  have HB0 := Lib.hid (show Below w.heap.size w (w.alloc (.cells #[.int .i64 n, .int .i64 d] 23)) from (Below.refl _ _).alloc (Nat.le_refl _) _)
  have HC0 := Lib.hid (Cel.made w 23 #[.int .i64 n, .int .i64 d])
  clear hT hP hE
  obtain ⟨kv, hkv⟩ : ∃ kv, RM.ok n d = kv := ⟨_, rfl⟩
  have hq := hq kv hkv
  rw [hq] at hp
  clear hq hz
  generalize FL n d = t at *
  cases kv
  all_goals
    simp only [if_true, Bool.false_eq_true, if_false] at hp
    go_enter Tryd.func4, Tryd.ntmps4
    go_wp2_with fail
    refine (hf _ (HT.out _ HB0.out).1).mono ?_
    clear hf
    rintro e w1 ⟨rfl, hb1⟩
    have HB1 := Lib.hid (HB0.out.trans (hb1.mono HB0.out.size))
    have HC1 := Lib.hid (HC0.out.below hb1)
    clear hb1
    have k0 : World.cell? w1 ⟨w.heap.size, 0, none⟩ = some (.int .i64 n) := HC1.out.cell 0
    have k1 : World.cell? w1 ⟨w.heap.size, 1, none⟩ = some (.int .i64 d) := HC1.out.cell 1
    go_wp2_with fail
    refine (hr _).mono ?_
    clear hr k0 k1
    rintro e w2 ⟨rfl, hb2⟩
    have HB2 := Lib.hid (HB1.out.trans (hb2.mono HB1.out.size))
    have HC2 := Lib.hid (HC1.out.below hb2)
    clear hb2
    go_wp2_with fail
    refine (hp _ (HT.out _ HB2.out).1 (HT.out _ HB2.out).2).mono ?_
    clear hp
    rintro e w3 ⟨rfl, hb3⟩
    have HB3 := Lib.hid (HB2.out.trans (hb3.mono HB2.out.size))
    have HC3 := Lib.hid (HC2.out.below hb3)
    clear hb3
  · have HBa := Lib.hid (HB3.out.alloc HB3.out.size (.cells #[.int .i64 0, .int .i64 0] 23))
    have HCa := Lib.hid (HC3.out.alloc (.cells #[.int .i64 0, .int .i64 0] 23))
    have HDa := Lib.hid (Cel.made w3 23 #[.int .i64 0, .int .i64 0])
    have k0 : World.cell? w3 ⟨w.heap.size, 0, none⟩ = some (.int .i64 n) := HC3.out.cell 0
    have k1 : World.cell? w3 ⟨w.heap.size, 1, none⟩ = some (.int .i64 d) := HC3.out.cell 1
    have nw3 : w.heap.size < w3.heap.size := HC3.out.lt
    have neq : ¬ w.heap.size = w3.heap.size := by omega
    go_wp2_with fail
    refine (rvalid_c n d hn hd _).mono ?_
    rintro e w4 ⟨rfl, hb4⟩
    rw [hkv]
    clear k0 k1
    have HB4 := Lib.hid (HBa.out.trans (hb4.mono HBa.out.size))
    have HC4 := Lib.hid (HCa.out.below hb4)
    have HD4 := Lib.hid (HDa.out.below hb4)
    clear hb4
    go_wp2_with fail
    refine (awake_c _).mono ?_
    rintro e w5 ⟨rfl, hb5⟩
    have HB5 := Lib.hid (HB4.out.trans (hb5.mono HB4.out.size))
    have k0 : World.cell? w5 ⟨w.heap.size, 0, none⟩ = some (.int .i64 n) := (HC4.out.below hb5).cell 0
    have k1 : World.cell? w5 ⟨w.heap.size, 1, none⟩ = some (.int .i64 d) := (HC4.out.below hb5).cell 1
    have m0 : World.cell? w5 ⟨w3.heap.size, 0, none⟩ = some (.int .i64 0) := (HD4.out.below hb5).cell 0
    have m1 : World.cell? w5 ⟨w3.heap.size, 1, none⟩ = some (.int .i64 0) := (HD4.out.below hb5).cell 1
    clear hb5
    go_wp2
    go_ret
    exact ⟨rfl, HB5.out⟩
  · have HBa := Lib.hid (HB3.out.alloc HB3.out.size (.cells #[.int .i64 n, .int .i64 d] 23))
    have HCa := Lib.hid (HC3.out.alloc (.cells #[.int .i64 n, .int .i64 d] 23))
    have HDa := Lib.hid (Cel.made w3 23 #[.int .i64 n, .int .i64 d])
    have k0 : World.cell? w3 ⟨w.heap.size, 0, none⟩ = some (.int .i64 n) := HC3.out.cell 0
    have k1 : World.cell? w3 ⟨w.heap.size, 1, none⟩ = some (.int .i64 d) := HC3.out.cell 1
    have nw3 : w.heap.size < w3.heap.size := HC3.out.lt
    have neq : ¬ w.heap.size = w3.heap.size := by omega
    go_wp2_with fail
    refine (rvalid_c n d hn hd _).mono ?_
    rintro e w4 ⟨rfl, hb4⟩
    rw [hkv]
    clear k0 k1
    have HB4 := Lib.hid (HBa.out.trans (hb4.mono HBa.out.size))
    have HC4 := Lib.hid (HCa.out.below hb4)
    have HD4 := Lib.hid (HDa.out.below hb4)
    clear hb4
    go_wp2_with fail
    refine (awake_c _).mono ?_
    rintro e w5 ⟨rfl, hb5⟩
    have HB5 := Lib.hid (HB4.out.trans (hb5.mono HB4.out.size))
    have k0 : World.cell? w5 ⟨w.heap.size, 0, none⟩ = some (.int .i64 n) := (HC4.out.below hb5).cell 0
    have k1 : World.cell? w5 ⟨w.heap.size, 1, none⟩ = some (.int .i64 d) := (HC4.out.below hb5).cell 1
    have m0 : World.cell? w5 ⟨w3.heap.size, 0, none⟩ = some (.int .i64 n) := (HD4.out.below hb5).cell 0
    have m1 : World.cell? w5 ⟨w3.heap.size, 1, none⟩ = some (.int .i64 d) := (HD4.out.below hb5).cell 1
    clear hb5
    go_wp2
    go_ret
    exact ⟨rfl, HB5.out⟩

theorem cellsES : Tryd.prog.cellsOf 114 = 1 := by kernel_rfl
theorem cellsStr : Tryd.prog.cellsOf 9 = 1 := by kernel_rfl
theorem star : "*" ++ "errors.errorString" = "*errors.errorString" := by decide
theorem rowES (u : TypeId) (h : Tryd.prog.typeName? 3 u = some "*errors.errorString") : u = 112 :=
  typeName_ptr_named (nm := "errors.errorString") (by rw [star]; kernel_rfl) (by kernel_rfl) (by decide) u (by rw [star]; exact h)

/-- what the listed variables give -/
theorem laid_all {W : World} (h : laidMet Tryd.prog [("math/bits.deBruijn32tab", Rows.laid_math_bits_deBruijn32tab), ("math/bits.deBruijn64tab", Rows.laid_math_bits_deBruijn64tab), ("internal/strconv.uint64pow10", Rows.laid_internal_strconv_uint64pow10), ("strconv.ErrRange", Rows.laid_strconv_ErrRange), ("strconv.ErrSyntax", Rows.laid_strconv_ErrSyntax)] W) : Pw W ∧ Es W := by
  have h2 := h.tail.tail
  have hp : Pw W := Lib.tabIs_of_head (zs := Lib.pow10Tab) (g := 3) (by kernel_rfl) (by kernel_rfl) Tryd.underlying98 Tryd.underlying41 (by kernel_rfl) (by kernel_rfl) h2
  obtain ⟨a1, s1, hv1, _⟩ := laid_sentinel (g := 6) h2.tail (by kernel_rfl) (by kernel_rfl) Tryd.underlying58 rowES Tryd.underlying112 Tryd.underlying114 rfl rfl Tryd.underlying9 cellsES cellsStr
  obtain ⟨a2, s2, hv2, _⟩ := laid_sentinel (g := 5) h2.tail.tail (by kernel_rfl) (by kernel_rfl) Tryd.underlying58 rowES Tryd.underlying112 Tryd.underlying114 rfl rfl Tryd.underlying9 cellsES cellsStr
  exact ⟨hp, ⟨_, _, hv2⟩, _, _, hv1⟩
theorem lawFormat_d (n d : Int) (hn : -9223372036854775808 ≤ n ∧ n ≤ 9223372036854775807) (hd : -9223372036854775808 ≤ d ∧ d ≤ 9223372036854775807) (w : World) (hU : Pw w ∧ Es w) :
    Calls Tryd.prog 4 #[.agg #[.int .i64 n, .int .i64 d]] w fun e w' => e = .returned (.bool true) ∧ Below w.heap.size w w' := lawFormat_c n d hn hd w hU.1 hU.2
theorem lawParse_d (s : ByteArray) (hs : s.size ≤ 281474976710656) (w : World) (hU : Pw w ∧ Es w) :
    Calls Tryd.prog 5 #[.string s] w fun e w' => e = .returned (.bool true) ∧ Below w.heap.size w w' := lawParse_c s hs w hU.1 hU.2
end Go.Proofs.YthcgcmmkajjhhaaDoor
