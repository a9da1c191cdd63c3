/- The code's Escape and Unescape, whole. -/
import Derived.Test.YtpkjogjdacogeaaDoorStE
namespace Go.Proofs.YtpkjogjdacogeaaDoor
open Go.RowKit
set_option linter.unusedVariables false
set_option linter.unusedSimpArgs false

/-- an answer of bytes and an error, from w on -/
def Ans (w w' : World) (e : Ending) (bs : List Nat) (n : Int) : Prop := ∃ v', e = .returned (.tuple #[v', .int .i64 n]) ∧ Ow w' w.heap.size v' bs ∧ Touch w w' (fun _ => False)

theorem esc_c (w : World) (v : Value) (p : List Nat) (h : Sl w v p) (hp : p.length < 17592186044416) :
    Calls Tryd.prog 20 #[v] w fun e w' => Ans w w' e (SM.escR p) (SM.escE p) := by
  unfold SM.escR SM.escE
  by_cases hz : SM.endz p = true
  · rw [if_pos hz, if_pos hz]
    refine (esc_bad w v p h hp hz).mono ?_
    rintro e w' ⟨rfl, rfl⟩
    exact ⟨_, rfl, Ow.nil _ _, Touch.refl _ _⟩
  · rw [if_neg hz, if_neg hz]
    exact esc_good w v p h hp (by simpa using hz)

theorem Sl.from_ {w : World} {g o n c : Nat} {bs : List Nat} (h : Sl w (.slice (some ⟨g, o, none⟩) n c) bs) (k : Nat) (hk : k < bs.length) : Sl w (.slice (some ⟨g, o + k, none⟩) (bs.length - k) (c - k)) (bs.drop k) := by
  obtain ⟨g', o', cap, hv, h1, h2, h3⟩ := h.some_ (by omega)
  injection hv with hv hn hc
  injection hv with hv
  injection hv with hg ho
  subst hg ho hc
  have hl : (bs.drop k).length = bs.length - k := List.length_drop
  refine .inr (.inr ⟨g, o + k, c - k, by rw [hl], by rw [hl]; omega, h2, fun j u hj => ?_⟩)
  have hj2 : j < (bs.drop k).length := by
    have := (List.getElem?_eq_some_iff.1 hj).1
    rwa [length_by8] at this
  rw [by8_get _ _ hj2] at hj
  have e : (bs.drop k).getD j 0 = bs.getD (k + j) 0 := by simp [List.getD]
  rw [e] at hj
  rw [Nat.add_assoc, h3 (k + j) (by omega)]
  exact hj

theorem isE_c (w : World) (g o n c y : Nat) (r : List Nat) (h : Sl w (.slice (some ⟨g, o, none⟩) n c) (y :: r)) (hr : r.length < 17592186044416) :
    Calls Tryd.prog 26 #[.slice (some ⟨g, o, none⟩) n c] w fun e w' => e = .returned (.bool (decide (y = 3) && SM.okE r)) ∧ w = w' := by
  obtain ⟨g', o', cap, hv, h1, h2, h3⟩ := h.some_ (by simp)
  injection hv with hv hn hc
  injection hv with hv
  injection hv with hg ho
  subst hg ho hc
  have c0 := h3 0 (by simp)
  simp only [List.getD_cons_zero, Nat.add_zero] at c0
  by_cases hy : y = 3
  · subst hy
    cases r with
    | nil =>
      simp only [List.length_cons, List.length_nil, Nat.zero_add] at hn
      subst hn
      clear h h3
      go_enter Tryd.func26, Tryd.ntmps26
      go_wp2
      go_ret
      exact ⟨rfl, rfl⟩
    | cons d q =>
      have c1 := h3 1 (by simp)
      simp only [List.getD_cons_succ, List.getD_cons_zero] at c1
      simp only [List.length_cons] at hn hr h1
      have hn2 : 1 < n := by omega
      have hn3 : n ≤ 17592186044417 := by omega
      have hd : (decide (((d : Nat) : Int) ≤ 3)) = decide (d < 4) := by
        by_cases hd : d < 4
        · rw [decide_eq_true hd]; simp; omega
        · rw [decide_eq_false hd]; simp; omega
      clear h h3 hn
      go_enter Tryd.func26, Tryd.ntmps26
      go_wp2
      go_ret
      refine ⟨?_, rfl⟩
      simp [SM.okE]
      try omega
  · have hb : (((y : Nat) : Int) == 3) = false := beq_eq_false_iff_ne.2 (by omega)
    have hd : decide (y = 3) = false := decide_eq_false hy
    rw [hd, Bool.false_and]
    simp only [List.length_cons] at hn
    have hn2 : 0 < n := by omega
    clear h h3 hn
    go_enter Tryd.func26, Tryd.ntmps26
    go_wp2
    go_ret
    exact ⟨rfl, rfl⟩

theorem uns_bad (w : World) (v : Value) (p : List Nat) (h : Sl w v p) (hp : p.length < 17592186044416) (hz : SM.endz p = true) :
    Calls Tryd.prog 15 #[v] w fun e w' => e = .returned (.tuple #[.slice none 0 0, .int .i64 3]) ∧ w = w' := by
  have hE := endz_c w v p h hp
  rw [hz] at hE
  have HE := Lib.hid hE
  clear h hE
  go_enter Tryd.func15, Tryd.ntmps15
  go_wp2_with fail
  refine HE.out.mono ?_
  rintro e w1 ⟨rfl, rfl⟩
  go_wp2
  go_ret2
  exact ⟨rfl, rfl⟩

theorem map_map_app (x : Option (List Nat)) (out : List Nat) (y : Nat) : (x.map (y :: ·)).map (out ++ ·) = x.map (out ++ [y] ++ ·) := by
  cases x <;> simp

set_option maxHeartbeats 400000 in
theorem uns_good (w : World) (v : Value) (p : List Nat) (h : Sl w v p) (hp : p.length < 17592186044416) (hz : SM.endz p = false) :
    Calls Tryd.prog 15 #[v] w fun e w' => Ans w w' e (SM.unR p) (SM.unE p) := by
  have hE := endz_c w v p h (by omega)
  rw [hz] at hE
  have HE := Lib.hid hE
  have H := Lib.hid h
  have hun : SM.un p = SM.unF 0 p := by unfold SM.un; rw [hz]; rfl
  obtain ⟨A, c, rfl⟩ := h.len
  have hcap : p.length ≤ c := by
    rcases h with ⟨h, h2⟩ | ⟨a, c', h, h2⟩ | ⟨g, o, cap, h, h2, _⟩
    · injection h; subst h2; simp
    · injection h; subst h2; simp
    · injection h; omega
  have hA : A = none → p.length = 0 ∧ c = 0 := by
    intro hA
    rcases h with ⟨h, h2⟩ | ⟨a, c', h, h2⟩ | ⟨g, o, cap, h, h2, _⟩
    · injection h with _ h3 h4; exact ⟨h3, h4⟩
    · injection h with h3; rw [hA] at h3; cases h3
    · injection h with h3; rw [hA] at h3; cases h3
  have HU := Lib.hid hun
  clear h hE hun
  go_enter Tryd.func15, Tryd.ntmps15
  go_wp2_with fail
  refine HE.out.mono ?_
  rintro e w1 ⟨rfl, rfl⟩
  go_wp2_with fail
  go_loopw [4, 5, 14] (fun v z i wr => ∃ (k : Nat) (out : List Nat) (zn : Nat), k ≤ p.length ∧ i = .int .i64 (k : Int) ∧ z = .int .i64 (zn : Int) ∧ zn ≤ 2 ∧ out.length ≤ k ∧ SM.un p = (SM.unF zn (p.drop k)).map (out ++ ·) ∧ Ow wr w.heap.size v out ∧ Touch w wr (fun _ => False)) (fun _ _ i _ => p.length - (intOf i).toNat)
  case atStart =>
    refine ⟨0, [], 0, Nat.zero_le _, rfl, rfl, by omega, by simp, by rw [HU.out]; simp, ?_, Touch.refl _ _⟩
    cases A with
    | none => exact Ow.nil _ _
    | some a => exact .inl ⟨a, rfl, rfl⟩
  case round =>
    obtain ⟨k, out, zn, hk, rfl, rfl, hzn, hlen, hesc, hO, hT⟩ := hrel
    have HT := Lib.hid hT
    have HO := Lib.hid hO
    by_cases hlt : k < p.length
    · have hsl := H.out.to hT (fun _ _ _ e => e)
      obtain ⟨g, o, cap, hA2, hcap2, hg, hcell⟩ := hsl.some_ (by omega)
      injection hA2 with hA2 _ hc2
      subst hA2 hc2
      have hc := hcell k hlt
      have hd := drop_get hlt
      have hfr := hsl.from_ k hlt
      rw [hd] at hesc hfr
      have hrl : (p.drop (k + 1)).length < 17592186044416 := by rw [List.length_drop]; omega
      have Hfr := Lib.hid (isE_c _ _ _ _ _ _ _ hfr hrl)
      clear hcell hsl hT hd hA hfr hrl
      unfold SM.unF at hesc
      have hsz := HT.out.size
      have hl2 : out.length + 1 ≤ 140737488355328 := by omega
      have Hl := Lib.hid hl2
      clear hl2
      generalize p.getD k 0 = y at *
      by_cases hcase : zn = 2 ∧ y < 4
      · rw [if_pos hcase] at hesc
        obtain ⟨rfl, hy⟩ := hcase
        by_cases hok : y = 3 ∧ SM.okE (p.drop (k + 1)) = true
        · rw [if_pos hok] at hesc
          obtain ⟨rfl, hok⟩ := hok
          have hf := Hfr.out
          rw [hok] at hf
          have Hf := Lib.hid hf
          have Hesc := Lib.hid hesc
          clear hesc hO hf hok
          go_wp2_with fail
          refine Hf.out.mono ?_
          rintro e w3 ⟨rfl, rfl⟩
          go_wp2_with fail
          go_roundw
          case rel => exact ⟨k + 1, out, 0, by omega, by go_num, rfl, by omega, by omega, Hesc.out, HO.out, HT.out⟩
          case measure => simp [intOf]; omega
        · rw [if_neg hok] at hesc
          have hfb : (decide (y = 3) && SM.okE (p.drop (k + 1))) = false := by
            rw [← Bool.not_eq_true]
            intro h
            rw [Bool.and_eq_true] at h
            exact hok ⟨of_decide_eq_true h.1, h.2⟩
          have hf := Hfr.out
          rw [hfb] at hf
          have Hf := Lib.hid hf
          have hn : SM.un p = none := by rw [hesc]; rfl
          have e1 : SM.unR p = [] := by unfold SM.unR; rw [hn]; rfl
          have e2 : SM.unE p = 3 := by unfold SM.unE; rw [hn]; rfl
          have He1 := Lib.hid e1
          have He2 := Lib.hid e2
          clear hesc hO hf hok hfb hn e1 e2
          go_wp2_with fail
          refine Hf.out.mono ?_
          rintro e w3 ⟨rfl, rfl⟩
          go_wp2_with fail
          go_ret2
          rw [He1.out, He2.out]
          exact ⟨_, rfl, Ow.nil _ _, HT.out⟩
      · rw [if_neg hcase] at hesc
        have hg1 : (((zn : Nat) : Int) == 2) = (zn == 2) := beq_k zn 2
        have Hesc := Lib.hid hesc
        have Hcase := Lib.hid hcase
        have fin : ∀ v2 w2 (S : Nat → Prop), (∀ i, S i → w.heap.size ≤ i) → Ow w2 w.heap.size v2 (out ++ [y]) → Touch (wr.alloc (.cells #[.int .u8 (y : Int)] 5)) w2 S → ∃ (k' : Nat) (out' : List Nat) (zn' : Nat), k' ≤ p.length ∧ Value.int IntKind.i64 ((k : Int) + 1) = .int .i64 (k' : Int) ∧ Value.int IntKind.i64 ((SM.zz zn y : Nat) : Int) = .int .i64 (zn' : Int) ∧ zn' ≤ 2 ∧ out'.length ≤ k' ∧ SM.un p = (SM.unF zn' (p.drop k')).map (out' ++ ·) ∧ Ow w2 w.heap.size v2 out' ∧ Touch w w2 (fun _ => False) := by
          intro v2 w2 S hS ho2 ht2
          refine ⟨k + 1, out ++ [y], SM.zz zn y, by omega, by go_num, rfl, SM.zz_le hzn Hcase.out, by simp; omega, by rw [Hesc.out, map_map_app], ho2, ?_⟩
          exact (HT.out.alloc _).trans ht2 (fun i hi => .inr (hS i hi))
        have Fin := Lib.hid fin
        clear hesc hO hcase fin
        by_cases hz2 : zn = 2
        · subst hz2
          have hy : 3 < y := by have := Hcase.out; omega
          go_wp2_with (at_builtin; refine wpl_append_ow (by rfl) _ _ (by rfl) w.heap.size _ _ _ [y] (by rfl) (by rfl) (HO.out.to ((Touch.refl _ (fun _ => False)).alloc _) (fun _ _ _ _ h => h)) (Sl.one _ y) ?l2 ?b2 ?_)
          case l2 => have := Hl.out; simp; omega
          case b2 => first | omega | (simp; omega)
          intro v2 w2 ho2 ht2 _
          have Hf := Lib.hid (Fin.out v2 w2 _ (fun _ h => h.1) ho2 ht2)
          clear ho2 ht2
          go_wp2_with fail
          refine (zz_c _ _ y (by omega)).mono ?_
          rintro e w3 ⟨rfl, rfl⟩
          go_wp2_with fail
          go_roundw
          case rel => exact Hf.out
          case measure => simp [intOf]; omega
        · have hzb : (((zn : Nat) : Int) == 2) = false := by rw [hg1]; exact beq_eq_false_iff_ne.2 hz2
          clear hg1
          go_wp2_with (at_builtin; refine wpl_append_ow (by rfl) _ _ (by rfl) w.heap.size _ _ _ [y] (by rfl) (by rfl) (HO.out.to ((Touch.refl _ (fun _ => False)).alloc _) (fun _ _ _ _ h => h)) (Sl.one _ y) ?l2 ?b2 ?_)
          case l2 => have := Hl.out; simp; omega
          case b2 => first | omega | (simp; omega)
          intro v2 w2 ho2 ht2 _
          have Hf := Lib.hid (Fin.out v2 w2 _ (fun _ h => h.1) ho2 ht2)
          clear ho2 ht2
          go_wp2_with fail
          refine (zz_c _ _ y (by omega)).mono ?_
          rintro e w3 ⟨rfl, rfl⟩
          go_wp2_with fail
          go_roundw
          case rel => exact Hf.out
          case measure => simp [intOf]; omega
    · obtain rfl : k = p.length := by omega
      rw [List.drop_length] at hesc
      have hn : SM.un p = some out := by rw [hesc]; simp [SM.unF]
      have e1 : SM.unR p = out := by unfold SM.unR; rw [hn]; rfl
      have e2 : SM.unE p = 0 := by unfold SM.unE; rw [hn]; rfl
      have He1 := Lib.hid e1
      have He2 := Lib.hid e2
      clear hesc e1 e2 hn hT hO
      go_wp2
      go_ret2
      rw [He1.out, He2.out]
      exact ⟨_, rfl, HO.out, HT.out⟩

theorem uns_c (w : World) (v : Value) (p : List Nat) (h : Sl w v p) (hp : p.length < 17592186044416) :
    Calls Tryd.prog 15 #[v] w fun e w' => Ans w w' e (SM.unR p) (SM.unE p) := by
  by_cases hz : SM.endz p = true
  · have hn : SM.un p = none := by unfold SM.un; rw [if_pos hz]
    have e1 : SM.unR p = [] := by unfold SM.unR; rw [hn]; rfl
    have e2 : SM.unE p = 3 := by unfold SM.unE; rw [hn]; rfl
    rw [e1, e2]
    refine (uns_bad w v p h hp hz).mono ?_
    rintro e w' ⟨rfl, rfl⟩
    exact ⟨_, rfl, Ow.nil _ _, Touch.refl _ _⟩
  · exact uns_good w v p h hp (by simpa using hz)
end Go.Proofs.YtpkjogjdacogeaaDoor
