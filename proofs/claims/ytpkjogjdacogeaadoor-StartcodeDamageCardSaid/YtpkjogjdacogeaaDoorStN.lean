/- Start codes and bodies: nextCode, endOfBody, TrimRight; the reference's next and clean. -/
import Derived.Test.YtpkjogjdacogeaaDoorStC
import Derived.Test.YtpkjogjdacogeaaDoorStM4
namespace Go.Proofs.YtpkjogjdacogeaaDoor
open Go.RowKit
set_option linter.unusedVariables false
set_option linter.unusedSimpArgs false

namespace SM
theorem codeH_drop (b : List Nat) (k : Nat) : codeH (b.drop k) = (decide (k + 4 ≤ b.length) && (b.getD k 0 == 0 && b.getD (k + 1) 0 == 0 && b.getD (k + 2) 0 == 1 && !(b.getD (k + 3) 0 == 0))) := by
  rw [codeH_at]
  have g : ∀ j, (b.drop k).getD j 0 = b.getD (k + j) 0 := by intro j; simp [List.getD]
  rw [g, g, g, g, Nat.add_zero]
  congr 1
  by_cases h : k + 4 ≤ b.length
  · rw [decide_eq_true h, decide_eq_true (by rw [List.length_drop]; omega)]
  · rw [decide_eq_false h, decide_eq_false (by rw [List.length_drop]; omega)]
/-- the index of the first start code from i on -/
def nx (b : List Nat) (i : Nat) : Nat := i + nxL (b.drop i)
theorem nx_step (b : List Nat) (k : Nat) (hk : k < b.length) (h : codeH (b.drop k) = false) : nx b k = nx b (k + 1) := by
  unfold nx
  have e := List.drop_eq_getElem_cons hk
  rw [e] at h ⊢
  rw [nxL, h, if_neg (by simp)]
  omega
theorem nx_here (b : List Nat) (k : Nat) (h : codeH (b.drop k) = true) : nx b k = k := by
  have h4 := codeH_long _ h
  unfold nx
  generalize b.drop k = l at *
  match l, h with
  | c :: r, h => rw [nxL, if_pos h]; rfl
theorem nx_end (b : List Nat) (k : Nat) (hk : k ≤ b.length) (h : b.length < k + 4) : nx b k = b.length := by
  unfold nx
  rw [nxL_short _ (by rw [List.length_drop]; omega), List.length_drop]
  omega
theorem nx_le (b : List Nat) (k : Nat) (hk : k ≤ b.length) : k ≤ nx b k ∧ nx b k ≤ b.length := by
  have := nxL_le (b.drop k)
  rw [List.length_drop] at this
  unfold nx
  omega
end SM

/-- what the test of a start code meets at an index -/
theorem code_cases (b : List Nat) (k : Nat) (hk : k + 4 ≤ b.length) :
    (SM.codeH (b.drop k) = false ∧ ((((b.getD k 0 : Nat) : Int) == 0) = false ∨ (b.getD k 0 = 0 ∧ (((b.getD (k + 1) 0 : Nat) : Int) == 0) = false) ∨ (b.getD k 0 = 0 ∧ b.getD (k + 1) 0 = 0 ∧ (((b.getD (k + 2) 0 : Nat) : Int) == 1) = false) ∨ (b.getD k 0 = 0 ∧ b.getD (k + 1) 0 = 0 ∧ b.getD (k + 2) 0 = 1 ∧ b.getD (k + 3) 0 = 0))) ∨
    (SM.codeH (b.drop k) = true ∧ b.getD k 0 = 0 ∧ b.getD (k + 1) 0 = 0 ∧ b.getD (k + 2) 0 = 1 ∧ (((b.getD (k + 3) 0 : Nat) : Int) != 0) = true) := by
  rw [SM.codeH_drop, decide_eq_true hk, Bool.true_and]
  have a0 := beq_k (b.getD k 0) 0
  have a1 := beq_k (b.getD (k + 1) 0) 0
  have a2 := beq_k (b.getD (k + 2) 0) 1
  generalize b.getD k 0 = x at *
  generalize b.getD (k + 1) 0 = y at *
  generalize b.getD (k + 2) 0 = z at *
  generalize b.getD (k + 3) 0 = t at *
  by_cases h0 : x = 0
  · by_cases h1 : y = 0
    · by_cases h2 : z = 1
      · by_cases h3 : t = 0
        · left; subst h0 h1 h2 h3; exact ⟨rfl, .inr (.inr (.inr ⟨rfl, rfl, rfl, rfl⟩))⟩
        · right; subst h0 h1 h2
          refine ⟨by simp [h3], rfl, rfl, rfl, ?_⟩
          rw [bne_iff_ne]; omega
      · left; subst h0 h1; exact ⟨by simp [h2], .inr (.inr (.inl ⟨rfl, rfl, a2.trans (beq_eq_false_iff_ne.2 h2)⟩))⟩
    · left; subst h0; exact ⟨by simp [h1], .inr (.inl ⟨rfl, a1.trans (beq_eq_false_iff_ne.2 h1)⟩)⟩
  · left; exact ⟨by simp [h0], .inl (a0.trans (beq_eq_false_iff_ne.2 h0))⟩

set_option maxHeartbeats 400000 in
theorem next_c (w : World) (v : Value) (b : List Nat) (i : Nat) (h : Sl w v b) (hi : i ≤ b.length) (hb : b.length < 1099511627776) :
    Calls Tryd.prog 13 #[v, .int .i64 (i : Int)] w fun e w' => e = .returned (.int .i64 (SM.nx b i : Nat)) ∧ w = w' := by
  obtain ⟨A, c, rfl⟩ := h.len
  have H := Lib.hid h
  clear h
  go_enter Tryd.func13, Tryd.ntmps13
  go_wp2_with fail
  go_loopw [5] (fun q wr => ∃ k : Nat, i ≤ k ∧ k ≤ b.length ∧ q = .int .i64 (k : Int) ∧ SM.nx b i = SM.nx b k ∧ wr = w) (fun q _ => b.length - (intOf q).toNat)
  case atStart => exact ⟨i, Nat.le_refl _, hi, rfl, rfl, rfl⟩
  case round =>
    obtain ⟨k, hik, hk, rfl, hnx, rfl⟩ := hrel
    have Hnx := Lib.hid hnx
    clear hnx
    by_cases hlt : k + 4 ≤ b.length
    · obtain ⟨g, o, cap, hv, hcap, hg, hcell⟩ := H.out.some_ (by omega)
      injection hv with hv _ hc2
      subst hv hc2
      have d0 := hcell k (by omega)
      have d1 := hcell (k + 1) (by omega)
      have d2 := hcell (k + 2) (by omega)
      have d3 := hcell (k + 3) (by omega)
      have hst := code_cases b k hlt
      have hstep := SM.nx_step b k (by omega)
      have hhere := SM.nx_here b k
      generalize hn : b.length = n at *
      have Hn := Lib.hid hn
      generalize SM.codeH (b.drop k) = cb at *
      generalize b.getD k 0 = x at *
      generalize b.getD (k + 1) 0 = y at *
      generalize b.getD (k + 2) 0 = z at *
      generalize b.getD (k + 3) 0 = t at *
      have Hstep := Lib.hid hstep
      have Hhere := Lib.hid hhere
      clear hcell hstep hhere hn
      rcases hst with ⟨hcb, hst⟩ | ⟨hcb, rfl, rfl, rfl, ht⟩
      · have hs := Lib.hid (Hstep.out hcb)
        clear hcb
        rcases hst with hx | ⟨rfl, hy⟩ | ⟨rfl, rfl, hz⟩ | ⟨rfl, rfl, rfl, rfl⟩
        all_goals
          go_wp2_with fail
          go_roundw
          case rel => exact ⟨k + 1, by omega, by omega, by go_num, Hnx.out.trans hs.out, (by first | rfl | trivial)⟩
          case measure => simp [intOf]; omega
      · have hs := Lib.hid (Hhere.out hcb)
        clear hcb
        go_wp2_with fail
        go_ret
        rw [Hnx.out, hs.out]
        exact ⟨rfl, rfl⟩
    · have he := Lib.hid (SM.nx_end b k hk (by omega))
      go_wp2_with fail
      go_ret
      rw [Hnx.out, he.out]
      exact ⟨rfl, rfl⟩
set_option maxHeartbeats 400000 in
theorem rnext_c (w : World) (v : Value) (b : List Nat) (i : Nat) (h : Sl w v b) (hi : i ≤ b.length) (hb : b.length < 1099511627776) :
    Calls Tryd.prog 16 #[v, .int .i64 (i : Int)] w fun e w' => e = .returned (.int .i64 (SM.nx b i : Nat)) ∧ w = w' := by
  obtain ⟨A, c, rfl⟩ := h.len
  have H := Lib.hid h
  clear h
  go_enter Tryd.func16, Tryd.ntmps16
  go_wp2_with fail
  go_loopw [1] (fun q wr => ∃ k : Nat, i ≤ k ∧ k ≤ b.length ∧ q = .int .i64 (k : Int) ∧ SM.nx b i = SM.nx b k ∧ wr = w) (fun q _ => b.length - (intOf q).toNat)
  case atStart => exact ⟨i, Nat.le_refl _, hi, rfl, rfl, rfl⟩
  case round =>
    obtain ⟨k, hik, hk, rfl, hnx, rfl⟩ := hrel
    have Hnx := Lib.hid hnx
    clear hnx
    by_cases hlt : k + 4 ≤ b.length
    · obtain ⟨g, o, cap, hv, hcap, hg, hcell⟩ := H.out.some_ (by omega)
      injection hv with hv _ hc2
      subst hv hc2
      have d0 := hcell k (by omega)
      have d1 := hcell (k + 1) (by omega)
      have d2 := hcell (k + 2) (by omega)
      have d3 := hcell (k + 3) (by omega)
      have hst := code_cases b k hlt
      have hstep := SM.nx_step b k (by omega)
      have hhere := SM.nx_here b k
      generalize hn : b.length = n at *
      have Hn := Lib.hid hn
      generalize SM.codeH (b.drop k) = cb at *
      generalize b.getD k 0 = x at *
      generalize b.getD (k + 1) 0 = y at *
      generalize b.getD (k + 2) 0 = z at *
      generalize b.getD (k + 3) 0 = t at *
      have Hstep := Lib.hid hstep
      have Hhere := Lib.hid hhere
      clear hcell hstep hhere hn
      rcases hst with ⟨hcb, hst⟩ | ⟨hcb, rfl, rfl, rfl, ht⟩
      · have hs := Lib.hid (Hstep.out hcb)
        clear hcb
        rcases hst with hx | ⟨rfl, hy⟩ | ⟨rfl, rfl, hz⟩ | ⟨rfl, rfl, rfl, rfl⟩
        all_goals
          go_wp2_with fail
          go_roundw
          case rel => exact ⟨k + 1, by omega, by omega, by go_num, Hnx.out.trans hs.out, (by first | rfl | trivial)⟩
          case measure => simp [intOf]; omega
      · have hs := Lib.hid (Hhere.out hcb)
        clear hcb
        go_wp2_with fail
        go_ret
        rw [Hnx.out, hs.out]
        exact ⟨rfl, rfl⟩
    · have he := Lib.hid (SM.nx_end b k hk (by omega))
      go_wp2_with fail
      go_ret
      rw [Hnx.out, he.out]
      exact ⟨rfl, rfl⟩

/-- a part of a slice -/
theorem Sl.part {w : World} {g o n c : Nat} {b : List Nat} (h : Sl w (.slice (some ⟨g, o, none⟩) n c) b) (i m c' : Nat) (hi : i + m ≤ b.length) (hc : m ≤ c') : Sl w (.slice (some ⟨g, o + i, none⟩) m c') ((b.drop i).take m) := by
  by_cases hm : m = 0
  · subst hm; exact .inr (.inl ⟨_, _, rfl, by simp⟩)
  · obtain ⟨g', o', cap, hv, h1, h2, h3⟩ := h.some_ (by omega)
    injection hv with hv _ _
    injection hv with hv
    injection hv with hg ho
    subst hg ho
    have hl : ((b.drop i).take m).length = m := by simp; omega
    refine .inr (.inr ⟨g, o + i, c', by rw [hl], by rw [hl]; exact hc, h2, fun j u hj => ?_⟩)
    have hj2 : j < ((b.drop i).take m).length := by
      have := (List.getElem?_eq_some_iff.1 hj).1
      rwa [length_by8] at this
    rw [by8_get _ _ hj2] at hj
    have e : ((b.drop i).take m).getD j 0 = b.getD (i + j) 0 := by
      simp only [List.getD, List.getElem?_take, List.getElem?_drop]
      rw [if_pos (by omega)]
    rw [e] at hj
    rw [Nat.add_assoc, h3 (i + j) (by omega)]
    exact hj
theorem Sl.take {w : World} {g o n c : Nat} {b : List Nat} (h : Sl w (.slice (some ⟨g, o, none⟩) n c) b) (m : Nat) (hm : m ≤ b.length) (hc : b.length ≤ c) : Sl w (.slice (some ⟨g, o, none⟩) m c) (b.take m) := by
  have := h.part 0 m c (by omega) (by omega)
  simpa using this
theorem take_snoc (b : List Nat) (k : Nat) (hk : k < b.length) : b.take (k + 1) = b.take k ++ [b.getD k 0] := by
  rw [List.take_add_one]
  simp [List.getD, hk]

theorem trimb_c (w : World) (v : Value) (b : List Nat) (h : Sl w v b) (hb : b.length < 1099511627776) :
    Calls Tryd.prog 29 #[v, .int .u8 0] w fun e w' => (∃ A c, e = .returned (.slice A (SM.bl b) c)) ∧ w = w' := by
  obtain ⟨A, c, rfl⟩ := h.len
  have hcap : b.length ≤ c := by
    rcases h with ⟨h, h2⟩ | ⟨a, c', h, h2⟩ | ⟨g, o, cap, h, h2, _⟩
    · injection h; subst h2; simp
    · injection h; subst h2; simp
    · injection h; omega
  have H := Lib.hid h
  clear h
  go_enter Tryd.func29, Tryd.ntmps29
  go_wp2_with fail
  go_loopw [0] (fun q wr => ∃ k : Nat, k ≤ b.length ∧ q = .slice A k c ∧ SM.bl b = SM.bl (b.take k) ∧ wr = w) (fun q _ => (match q with | .slice _ k _ => k | _ => 0))
  case atStart => exact ⟨b.length, Nat.le_refl _, rfl, by rw [List.take_length], rfl⟩
  case round =>
    obtain ⟨k, hk, rfl, hbl, rfl⟩ := hrel
    have Hbl := Lib.hid hbl
    clear hbl
    cases k with
    | zero =>
      go_wp2_with fail
      go_ret
      rw [Hbl.out]
      exact ⟨⟨_, _, rfl⟩, rfl⟩
    | succ k =>
      obtain ⟨g, o, cap, hv, hcap, hg, hcell⟩ := H.out.some_ (by omega)
      injection hv with hv _ hc2
      subst hv hc2
      have d0 := hcell k (by omega)
      have hsn := SM.bl_snoc (b.take k) (b.getD k 0)
      rw [← take_snoc b k (by omega)] at hsn
      have a0 := beq_k (b.getD k 0) 0
      have hlt : (b.take k).length = k := by simp; omega
      rw [hlt] at hsn
      generalize b.getD k 0 = y at *
      have Hs := Lib.hid hsn
      clear hcell hsn hlt
      by_cases hy : y = 0
      · subst hy
        clear a0
        go_wp2_with fail
        go_roundw
        case rel => exact ⟨k, by omega, by (try simp), by rw [Hbl.out, Hs.out, if_pos rfl], (by first | rfl | trivial)⟩
        case measure => (try simp)
      · have hyb : (((y : Nat) : Int) == 0) = false := a0.trans (beq_eq_false_iff_ne.2 hy)
        have hs := Lib.hid (Hs.out.trans (if_neg hy))
        clear hy a0
        go_wp2_with fail
        go_ret
        rw [Hbl.out, hs.out]
        exact ⟨⟨_, _, rfl⟩, rfl⟩

set_option maxRecDepth 100000 in
theorem trim_c (w : World) (v : Value) (b : List Nat) (h : Sl w v b) (hb : b.length < 1099511627776) :
    Calls Tryd.prog 24 #[v, .string ⟨#[0]⟩] w fun e w' => (∃ A c, e = .returned (.slice A (SM.bl b) c)) ∧ w = w' := by
  have Hc := Lib.hid (trimb_c w v b h hb)
  obtain ⟨A, c, rfl⟩ := h.len
  clear h
  rcases Nat.eq_zero_or_pos b.length with h0 | h0
  · obtain rfl := List.eq_nil_of_length_eq_zero h0
    simp only [List.length_nil]
    go_enter Tryd.func24, Tryd.ntmps24
    go_wp2_with fail
    go_ret
    exact ⟨⟨_, _, rfl⟩, rfl⟩
  · have hz : (((b.length : Nat) : Int) == 0) = false := beq_eq_false_iff_ne.2 (by omega)
    have hz2 : (b.length = 0) = False := eq_false (by omega)
    generalize hL : SM.bl b = L at *
    generalize b.length = n at *
    go_enter Tryd.func24, Tryd.ntmps24
    go_wp2_with fail
    refine Hc.out.mono ?_
    rintro e w1 ⟨⟨A1, c1, rfl⟩, rfl⟩
    go_wp2_with fail
    go_ret
    exact ⟨⟨_, _, rfl⟩, rfl⟩

/-- the bytes of a region -/
def reg (b : List Nat) (i j : Nat) : List Nat := (b.drop i).take (j - i)

theorem endb_c (w : World) (v : Value) (b : List Nat) (i j : Nat) (h : Sl w v b) (hij : i ≤ j) (hj : j ≤ b.length) (hb : b.length < 1099511627776) :
    Calls Tryd.prog 14 #[v, .int .i64 (i : Int), .int .i64 (j : Int)] w fun e w' => e = .returned (.int .i64 ((i + SM.bl (reg b i j) : Nat) : Int)) ∧ w = w' := by
  have hbl := SM.bl_le (reg b i j)
  have hrl : (reg b i j).length = j - i := by simp [reg]; omega
  have hcall := fun (v : Value) (hv : Sl w v (reg b i j)) => trim_c w v (reg b i j) hv (by omega)
  have Hcall := Lib.hid hcall
  clear hcall
  have empty : ∀ a c, j - i = 0 → Sl w (.slice (some a) (j - i) c) (reg b i j) := fun a c h => .inr (.inl ⟨a, c, by rw [h], List.eq_nil_of_length_eq_zero (by omega)⟩)
  rcases h with ⟨rfl, rfl⟩ | ⟨a, c, rfl, rfl⟩ | ⟨g, o, c, rfl, hcap, hg, hcell⟩
  · obtain rfl : i = 0 := by simp at hj; omega
    obtain rfl : j = 0 := by simp at hj; omega
    have hc := Hcall.out (.slice none 0 0) (.inl ⟨rfl, rfl⟩)
    have Hc := Lib.hid hc
    clear hc
    go_enter Tryd.func14, Tryd.ntmps14
    go_wp2_with fail
    refine Hc.out.mono ?_
    rintro e w1 ⟨⟨A1, c1, rfl⟩, rfl⟩
    go_wp2_with fail
    go_ret
    exact ⟨rfl, rfl⟩
  · obtain rfl : i = 0 := by simp at hj; omega
    obtain rfl : j = 0 := by simp at hj; omega
    have hc := fun a c => Hcall.out (.slice (some a) 0 c) (.inr (.inl ⟨_, _, rfl, rfl⟩))
    have Hc := Lib.hid hc
    clear hc
    go_enter Tryd.func14, Tryd.ntmps14
    go_wp2_with fail
    all_goals
      refine (Hc.out _ _).mono ?_
      rintro e w1 ⟨⟨A1, c1, rfl⟩, rfl⟩
      go_wp2_with fail
      go_ret
      exact ⟨rfl, rfl⟩
  · have hs : Sl w (.slice (some ⟨g, o, none⟩) b.length c) b := .inr (.inr ⟨g, o, c, rfl, hcap, hg, hcell⟩)
    have Hp := Lib.hid (hs.part i (j - i) (c - i) (by omega) (by omega))
    have He := Lib.hid empty
    generalize hL : SM.bl (reg b i j) = L at *
    have HL := Lib.hid hL
    clear hcell hs empty hL
    go_enter Tryd.func14, Tryd.ntmps14
    go_wp2_with fail
    all_goals
      refine (Hcall.out _ (by first | exact Hp.out | exact He.out _ _ (by omega))).mono ?_
      rintro e w1 ⟨⟨A1, c1, rfl⟩, rfl⟩
      go_wp2_with fail
      go_ret
      exact ⟨rfl, rfl⟩
end Go.Proofs.YtpkjogjdacogeaaDoor
