/- The code's endsWithZero, zerosAfter, isEscape, Escape. -/
import Derived.Test.YtpkjogjdacogeaaDoorStB
namespace Go.Proofs.YtpkjogjdacogeaaDoor
open Go.RowKit
set_option linter.unusedVariables false
set_option linter.unusedSimpArgs false

theorem beq_k (y k : Nat) : (((y : Nat) : Int) == ((k : Nat) : Int)) = (y == k) := by
  by_cases h : y = k
  · subst h; simp
  · rw [beq_eq_false_iff_ne.2 (show ((y : Nat) : Int) ≠ (k : Nat) by omega), beq_eq_false_iff_ne.2 h]

theorem endz_c (w : World) (v : Value) (p : List Nat) (h : Sl w v p) (hp : p.length < 17592186044416) :
    Calls Tryd.prog 25 #[v] w fun e w' => e = .returned (.bool (SM.endz p)) ∧ w = w' := by
  rw [SM.endz_at]
  rcases Nat.eq_zero_or_pos p.length with h0 | h0
  · obtain ⟨A, c, rfl⟩ := h.len
    rw [h0]
    clear h
    go_enter Tryd.func25, Tryd.ntmps25
    go_wp2
    go_ret
    exact ⟨rfl, rfl⟩
  · obtain ⟨g, o, cap, rfl, h1, h2, h3⟩ := h.some_ h0
    have hc := h3 (p.length - 1) (by omega)
    have hd : decide (0 < p.length) = true := decide_eq_true h0
    rw [hd, Bool.true_and]
    clear h3 h hd
    generalize p.getD (p.length - 1) 0 = y at *
    generalize p.length = n at *
    go_enter Tryd.func25, Tryd.ntmps25
    go_wp2
    go_ret
    refine ⟨?_, rfl⟩
    have hb := beq_k y 0
    simpa using hb

theorem zz_c (w : World) (z c : Nat) (hz : z ≤ 2) :
    Calls Tryd.prog 27 #[.int .i64 (z : Int), .int .u8 (c : Int)] w fun e w' => e = .returned (.int .i64 (SM.zz z c : Nat)) ∧ w = w' := by
  unfold SM.zz
  by_cases hc : c = 0
  · subst hc
    go_enter Tryd.func27, Tryd.ntmps27
    go_wp2
    go_ret
    exact ⟨by simp, rfl⟩
  · have hb : (((c : Nat) : Int) != 0) = true := by rw [bne_iff_ne]; omega
    rw [if_neg hc]
    clear hc
    go_enter Tryd.func27, Tryd.ntmps27
    go_wp2
    go_ret
    exact ⟨rfl, rfl⟩

theorem esc_bad (w : World) (v : Value) (p : List Nat) (h : Sl w v p) (hp : p.length < 17592186044416) (hz : SM.endz p = true) :
    Calls Tryd.prog 20 #[v] w fun e w' => e = .returned (.tuple #[.slice none 0 0, .int .i64 3]) ∧ w = w' := by
  have hE := endz_c w v p h hp
  rw [hz] at hE
  have HE := Lib.hid hE
  clear h hE
  go_enter Tryd.func20, Tryd.ntmps20
  go_wp2_with fail
  refine HE.out.mono ?_
  rintro e w1 ⟨rfl, rfl⟩
  go_wp2
  go_ret2
  exact ⟨rfl, rfl⟩

/-- an empty slice without room, of any slice -/
theorem drop_get {p : List Nat} {k : Nat} (hk : k < p.length) : p.drop k = p.getD k 0 :: p.drop (k + 1) := by
  rw [List.drop_eq_getElem_cons hk]
  simp [List.getD, hk]

set_option maxHeartbeats 400000 in
theorem esc_good (w : World) (v : Value) (p : List Nat) (h : Sl w v p) (hp : p.length < 17592186044416) (hz : SM.endz p = false) :
    Calls Tryd.prog 20 #[v] w fun e w' => ∃ v', e = .returned (.tuple #[v', .int .i64 0]) ∧ Ow w' w.heap.size v' (SM.esc p) ∧ Touch w w' (fun _ => False) := by
  have hE := endz_c w v p h (by omega)
  rw [hz] at hE
  have HE := Lib.hid hE
  have H := Lib.hid h
  obtain ⟨A, c, rfl⟩ := h.len
  have hcap : p.length ≤ c := by
    rcases h with ⟨h, h2⟩ | ⟨a, c', h, h2⟩ | ⟨g, o, cap, h, h2, _⟩
    · injection h; subst h2; simp
    · injection h; subst h2; simp
    · injection h; omega
  have hA : A = none → p.length = 0 ∧ c = 0 := by
    intro hA
    rcases h with ⟨h, h2⟩ | ⟨a, c', h, h2⟩ | ⟨g, o, cap, h, h2, _⟩
    · injection h with _ h3 h4; exact ⟨h3, h4⟩
    · injection h with h3; rw [hA] at h3; cases h3
    · injection h with h3; rw [hA] at h3; cases h3
  clear h hE
  go_enter Tryd.func20, Tryd.ntmps20
  go_wp2_with fail
  refine HE.out.mono ?_
  rintro e w1 ⟨rfl, rfl⟩
  go_wp2_with fail
  go_loopw [4, 5, 14] (fun v z i wr => ∃ (k : Nat) (out : List Nat) (zn : Nat), k ≤ p.length ∧ i = .int .i64 (k : Int) ∧ z = .int .i64 (zn : Int) ∧ zn ≤ 2 ∧ out.length ≤ 2 * k ∧ SM.esc p = out ++ SM.escF zn (p.drop k) ∧ Ow wr w.heap.size v out ∧ Touch w wr (fun _ => False)) (fun _ _ i _ => p.length - (intOf i).toNat)
  case atStart =>
    refine ⟨0, [], 0, Nat.zero_le _, rfl, rfl, by omega, by simp, by simp [SM.esc], ?_, Touch.refl _ _⟩
    cases A with
    | none => exact Ow.nil _ _
    | some a => exact .inl ⟨a, rfl, rfl⟩
  case round =>
    obtain ⟨k, out, zn, hk, rfl, rfl, hzn, hlen, hesc, hO, hT⟩ := hrel
    have HT := Lib.hid hT
    have HO := Lib.hid hO
    by_cases hlt : k < p.length
    · have hsl := H.out.to hT (fun _ _ _ e => e)
      obtain ⟨g, o, cap, hA2, hcap2, hg, hcell⟩ := hsl.some_ (by omega)
      injection hA2 with hA2 _ hc2
      subst hA2 hc2
      have hc := hcell k hlt
      have hd := drop_get hlt
      rw [hd] at hesc
      clear hcell hsl hT hd hA
      unfold SM.escF at hesc
      have hsz := HT.out.size
      have hl2 : out.length + 2 ≤ 140737488355328 := by omega
      have Hl := Lib.hid hl2
      clear hl2
      generalize p.getD k 0 = y at *
      by_cases hcase : zn = 2 ∧ y < 4
      · rw [if_pos hcase] at hesc
        obtain ⟨rfl, hy⟩ := hcase
        have hz0 := zz_c w 0 y (by omega)
        have Hesc := Lib.hid hesc
        clear hesc hO
        go_wp2_with (at_builtin; refine wpl_append_ow (by rfl) _ _ (by rfl) w.heap.size _ _ _ [3] (by rfl) (by rfl) (HO.out.to ((Touch.refl _ (fun _ => False)).alloc _) (fun _ _ _ _ h => h)) (Sl.one _ 3) ?l1 ?b1 ?_)
        case l1 => omega
        case b1 => first | omega | (simp; omega)
        intro v1 w1 ho1 ht1 _
        have Ho1 := Lib.hid ho1
        have Ht1 := Lib.hid ht1
        have hs1 := ht1.size
        simp at hs1
        clear ho1 ht1
        go_wp2_with (at_builtin; refine wpl_append_ow (by rfl) _ _ (by rfl) w.heap.size _ _ _ [y] (by rfl) (by rfl) (Ho1.out.to ((Touch.refl _ (fun _ => False)).alloc _) (fun _ _ _ _ h => h)) (Sl.one _ y) ?l2 ?b2 ?_)
        case l2 => have := Hl.out; simp only [List.length_append, List.length_cons, List.length_nil]; omega
        case b2 => first | omega | (simp; omega)
        intro v2 w2 ho2 ht2 _
        have Ho2 := Lib.hid ho2
        have Ht2 := Lib.hid ht2
        clear ho2 ht2
        go_wp2_with fail
        refine (zz_c _ 0 y (by omega)).mono ?_
        rintro e w3 ⟨rfl, rfl⟩
        go_wp2_with fail
        go_roundw
        case rel =>
          refine ⟨k + 1, out ++ [3, y], SM.zz 0 y, by omega, by go_num, rfl, SM.zz0_le y, by simp; omega, by rw [Hesc.out]; simp, Ho2.out, ?_⟩
          exact (((HT.out.alloc _).trans Ht1.out (fun i hi => .inr hi.1)).alloc _).trans Ht2.out (fun i hi => .inr hi.1)
        case measure => simp [intOf]; omega
      · rw [if_neg hcase] at hesc
        have hg1 : (((zn : Nat) : Int) == 2) = (zn == 2) := beq_k zn 2
        have hz2 := zz_c w zn y hzn
        have Hesc := Lib.hid hesc
        have Hcase := Lib.hid hcase
        have fin : ∀ v2 w2 (S : Nat → Prop), (∀ i, S i → w.heap.size ≤ i) → Ow w2 w.heap.size v2 (out ++ [y]) → Touch (wr.alloc (.cells #[.int .u8 (y : Int)] 5)) w2 S → ∃ (k' : Nat) (out' : List Nat) (zn' : Nat), k' ≤ p.length ∧ Value.int IntKind.i64 ((k : Int) + 1) = .int .i64 (k' : Int) ∧ Value.int IntKind.i64 ((SM.zz zn y : Nat) : Int) = .int .i64 (zn' : Int) ∧ zn' ≤ 2 ∧ out'.length ≤ 2 * k' ∧ SM.esc p = out' ++ SM.escF zn' (p.drop k') ∧ Ow w2 w.heap.size v2 out' ∧ Touch w w2 (fun _ => False) := by
          intro v2 w2 S hS ho2 ht2
          refine ⟨k + 1, out ++ [y], SM.zz zn y, by omega, by go_num, rfl, SM.zz_le hzn Hcase.out, by simp; omega, by rw [Hesc.out]; simp, ho2, ?_⟩
          exact (HT.out.alloc _).trans ht2 (fun i hi => .inr (hS i hi))
        have Fin := Lib.hid fin
        clear hesc hO hcase fin
        by_cases hz2 : zn = 2
        · subst hz2
          have hy : 3 < y := by have := Hcase.out; omega
          go_wp2_with (at_builtin; refine wpl_append_ow (by rfl) _ _ (by rfl) w.heap.size _ _ _ [y] (by rfl) (by rfl) (HO.out.to ((Touch.refl _ (fun _ => False)).alloc _) (fun _ _ _ _ h => h)) (Sl.one _ y) ?l2 ?b2 ?_)
          case l2 => have := Hl.out; simp; omega
          case b2 => first | omega | (simp; omega)
          intro v2 w2 ho2 ht2 _
          have Hf := Lib.hid (Fin.out v2 w2 _ (fun _ h => h.1) ho2 ht2)
          clear ho2 ht2
          go_wp2_with fail
          refine (zz_c _ _ y (by omega)).mono ?_
          rintro e w3 ⟨rfl, rfl⟩
          go_wp2_with fail
          go_roundw
          case rel => exact Hf.out
          case measure => simp [intOf]; omega
        · have hzb : (((zn : Nat) : Int) == 2) = false := by rw [hg1]; exact beq_eq_false_iff_ne.2 hz2
          clear hg1
          go_wp2_with (at_builtin; refine wpl_append_ow (by rfl) _ _ (by rfl) w.heap.size _ _ _ [y] (by rfl) (by rfl) (HO.out.to ((Touch.refl _ (fun _ => False)).alloc _) (fun _ _ _ _ h => h)) (Sl.one _ y) ?l2 ?b2 ?_)
          case l2 => have := Hl.out; simp; omega
          case b2 => first | omega | (simp; omega)
          intro v2 w2 ho2 ht2 _
          have Hf := Lib.hid (Fin.out v2 w2 _ (fun _ h => h.1) ho2 ht2)
          clear ho2 ht2
          go_wp2_with fail
          refine (zz_c _ _ y (by omega)).mono ?_
          rintro e w3 ⟨rfl, rfl⟩
          go_wp2_with fail
          go_roundw
          case rel => exact Hf.out
          case measure => simp [intOf]; omega
    · obtain rfl : k = p.length := by omega
      rw [List.drop_length] at hesc
      have e1 : SM.esc p = out := by rw [hesc]; simp [SM.escF]
      have He1 := Lib.hid e1
      clear hesc e1 hT hO
      go_wp2
      go_ret2
      rw [He1.out]
      exact ⟨_, rfl, HO.out, HT.out⟩
end Go.Proofs.YtpkjogjdacogeaaDoor
