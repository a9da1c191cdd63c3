/- SameBytes decides; the reference's Unescape. -/
import Derived.Test.YtpkjogjdacogeaaDoorStR
import Derived.Lib.Bytes
namespace Go.Proofs.YtpkjogjdacogeaaDoor
open Go.RowKit
set_option linter.unusedVariables false
set_option linter.unusedSimpArgs false

theorem nums_of {l : List Nat} (h : ∀ x ∈ l, x < 256) : ((l.map Int.ofNat).map fun n => UInt8.ofNat n.toNat).map UInt8.toNat = l := by
  rw [List.map_map, List.map_map]
  conv => rhs; rw [← List.map_id l]
  apply List.map_congr_left
  intro x hx
  have := h x hx
  simp [Function.comp]
  omega
theorem str_inj {xs ys : List Nat} (hx : ∀ x ∈ xs, x < 256) (hy : ∀ x ∈ ys, x < 256) (h : strOfNums (xs.map Int.ofNat) = strOfNums (ys.map Int.ofNat)) : xs = ys := by
  have h2 := congrArg (fun s : ByteArray => s.data.toList.map UInt8.toNat) h
  simp only [strOfNums_data] at h2
  rwa [nums_of hx, nums_of hy] at h2

theorem same_dec (w : World) (v u : Value) (xs ys : List Nat) (h1 : Sl w v xs) (h2 : Sl w u ys) (hx : ∀ x ∈ xs, x < 256) (hy : ∀ x ∈ ys, x < 256) :
    Calls Tryd.prog 21 #[v, u] w fun e w' => e = .returned (.bool (decide (xs = ys))) ∧ w = w' := by
  by_cases he : xs = ys
  · subst he
    rw [decide_eq_true rfl]
    exact same_c w v u xs h1 h2
  · rw [decide_eq_false he]
    have hn : ¬ strOfNums (xs.map Int.ofNat) = strOfNums (ys.map Int.ofNat) := fun e => he (str_inj hx hy e)
    have c1 := conv_c w v xs h1
    have c2 := conv_c w u ys h2
    clear h1 h2
    have hn2 : ¬ (strOfNums (xs.map Int.ofNat)).toList = (strOfNums (ys.map Int.ofNat)).toList := by
      intro e
      rw [Lib.strOfNums_toList, Lib.strOfNums_toList] at e
      have h3 := congrArg (List.map UInt8.toNat) e
      unfold Lib.bytesOf at h3
      rw [nums_of hx, nums_of hy] at h3
      exact he h3
    clear he hx hy
    generalize strOfNums (ys.map Int.ofNat) = s at *
    generalize strOfNums (xs.map Int.ofNat) = t at *
    go_enter Tryd.func21, Tryd.ntmps21
    go_wp2
    go_ret
    refine ⟨?_, rfl⟩
    simpa using hn2

namespace SM
theorem escF_mem (p : List Nat) : ∀ z, ∀ x ∈ escF z p, x ∈ p ∨ x = 3 := by
  induction p with
  | nil => intro z x h; simp [escF] at h
  | cons c r ih =>
    intro z x h
    unfold escF at h
    split at h
    · simp only [List.mem_cons] at h
      rcases h with rfl | rfl | h
      · exact .inr rfl
      · exact .inl (by simp)
      · rcases ih _ x h with h | h
        · exact .inl (by simp [h])
        · exact .inr h
    · simp only [List.mem_cons] at h
      rcases h with rfl | h
      · exact .inl (by simp)
      · rcases ih _ x h with h | h
        · exact .inl (by simp [h])
        · exact .inr h
theorem esc_byte {p : List Nat} (h : ∀ x ∈ p, x < 256) : ∀ x ∈ esc p, x < 256 := by
  intro x hx
  rcases escF_mem p 0 x hx with h1 | h1
  · exact h x h1
  · omega
theorem stF_mem (p : List Nat) : ∀ z, ∀ x ∈ stF z p, x ∈ p := by
  induction p with
  | nil => intro z x h; simp [stF] at h
  | cons c r ih =>
    intro z x h
    unfold stF at h
    split at h
    · exact List.mem_cons_of_mem _ (ih _ x h)
    · simp only [List.mem_cons] at h ⊢
      rcases h with rfl | h
      · exact .inl rfl
      · exact .inr (ih _ x h)
theorem length_st (p : List Nat) : ∀ z, (stF z p).length ≤ p.length := by
  induction p with
  | nil => intro z; simp [stF]
  | cons c r ih =>
    intro z
    unfold stF
    split
    · have := ih 0; simp; omega
    · have := ih (min (zz z c) 2); simp; omega
end SM

set_option maxHeartbeats 800000 in
theorem runs_c (w : World) (v : Value) (p : List Nat) (h : Sl w v p) (hp : p.length < 4398046511104) (hb : ∀ x ∈ p, x < 256) :
    Calls Tryd.prog 18 #[v] w fun e w' => Ans w w' e (SM.unR p) (SM.unE p) := by
  have H := Lib.hid h
  have Hb := Lib.hid hb
  obtain ⟨A, c, rfl⟩ := h.len
  have hA : p.length = 0 ∨ ∃ g o, A = some ⟨g, o, none⟩ ∧ g < w.heap.size ∧ ∀ i, i < p.length → w.cell? ⟨g, o + i, none⟩ = some (.int .u8 ((p.getD i 0 : Nat) : Int)) := by
    rcases Nat.eq_zero_or_pos p.length with h0 | h0
    · exact .inl h0
    · obtain ⟨g, o, cap, hv, h1, h2, h3⟩ := h.some_ h0
      injection hv with hv
      exact .inr ⟨g, o, hv, h2, h3⟩
  have HA := Lib.hid hA
  clear h hA hb
  go_enter Tryd.func18, Tryd.ntmps18
  go_wp2_with fail
  go_loopw [4, 5, 6] (fun v z i wr => ∃ (k : Nat) (out : List Nat) (zn : Nat), k ≤ p.length ∧ i = .int .i64 (k : Int) ∧ z = .int .i64 (zn : Int) ∧ zn ≤ 2 ∧ out.length ≤ k ∧ SM.stF 0 p = out ++ SM.stF zn (p.drop k) ∧ Ow wr w.heap.size v out ∧ Touch w wr (fun _ => False)) (fun _ _ i _ => p.length - (intOf i).toNat)
  case atStart => exact ⟨0, [], 0, Nat.zero_le _, rfl, rfl, by simp, by simp, by simp, Ow.nil _ _, Touch.refl _ _⟩
  case round =>
    obtain ⟨k, out, zn, hk, rfl, rfl, hzn, hlen, hesc, hO, hT⟩ := hrel
    have HT := Lib.hid hT
    have HO := Lib.hid hO
    by_cases hlt : k < p.length
    · rcases HA.out with h0 | ⟨g, o, rfl, hg, hcell⟩
      · omega
      have hc : wr.cell? ⟨g, o + k, none⟩ = some (.int .u8 ((p.getD k 0 : Nat) : Int)) := (hT.cell (p := ⟨g, o + k, none⟩) hg (fun e => e)).trans (hcell k hlt)
      have hd := drop_get hlt
      rw [hd] at hesc
      have hesc2 : SM.stF 0 p = out ++ (if zn = 2 ∧ p.getD k 0 = 3 then SM.stF 0 (p.drop (k + 1)) else p.getD k 0 :: SM.stF (min (SM.zz zn (p.getD k 0)) 2) (p.drop (k + 1))) := by rw [hesc]; rfl
      clear hesc
      have hsz := HT.out.size
      have hl2 : out.length + 2 ≤ 140737488355328 := by omega
      have Hl := Lib.hid hl2
      clear hl2 hd hT hO hcell
      generalize p.getD k 0 = y at *
      have fin : ∀ v2 w2 (S : Nat → Prop), (∀ i, S i → w.heap.size ≤ i) → ¬ (zn = 2 ∧ y = 3) → Ow w2 w.heap.size v2 (out ++ [y]) → Touch (wr.alloc (.cells #[.int .u8 (y : Int)] 5)) w2 S → ∃ (k' : Nat) (out' : List Nat) (zn' : Nat), k' ≤ p.length ∧ Value.int IntKind.i64 ((k : Int) + 1) = .int .i64 (k' : Int) ∧ Value.int IntKind.i64 ((min (SM.zz zn y) 2 : Nat) : Int) = .int .i64 (zn' : Int) ∧ zn' ≤ 2 ∧ out'.length ≤ k' ∧ SM.stF 0 p = out' ++ SM.stF zn' (p.drop k') ∧ Ow w2 w.heap.size v2 out' ∧ Touch w w2 (fun _ => False) := by
        intro v2 w2 S hS hcase ho2 ht2
        rw [if_neg hcase] at hesc2
        refine ⟨k + 1, out ++ [y], min (SM.zz zn y) 2, by omega, by go_num, rfl, by omega, by simp; omega, by rw [hesc2]; simp, ho2, ?_⟩
        exact (HT.out.alloc _).trans ht2 (fun i hi => .inr (hS i hi))
      have Fin := Lib.hid fin
      have Hesc := Lib.hid hesc2
      clear hesc2 fin
      by_cases hcase : zn = 2 ∧ y = 3
      · obtain ⟨rfl, rfl⟩ := hcase
        have hes := Hesc.out
        rw [if_pos ⟨rfl, rfl⟩] at hes
        have Hes := Lib.hid hes
        clear hes
        go_wp2_with fail
        go_roundw
        case rel => exact ⟨k + 1, out, 0, by omega, by go_num, rfl, by omega, by omega, Hes.out, HO.out, HT.out⟩
        case measure => simp [intOf]; omega
      · have hzb : (((zn : Nat) : Int) == 2) = (zn == 2) := beq_k zn 2
        have hyb : (((y : Nat) : Int) == 3) = (y == 3) := beq_k y 3
        have hy0 : (((y : Nat) : Int) == 0) = (y == 0) := beq_k y 0
        have hstate : (((zn : Nat) : Int) == 2) = false ∨ (zn = 2 ∧ (((y : Nat) : Int) == 3) = false) := by
          by_cases hz : zn = 2
          · exact .inr ⟨hz, by rw [hyb]; exact beq_eq_false_iff_ne.2 (fun e => hcase ⟨hz, e⟩)⟩
          · exact .inl (by rw [hzb]; exact beq_eq_false_iff_ne.2 hz)
        have hystate : (y = 0 ∧ (((y : Nat) : Int) == 0) = true) ∨ (y ≠ 0 ∧ (((y : Nat) : Int) == 0) = false) := by
          by_cases hy : y = 0
          · exact .inl ⟨hy, by rw [hy0, hy]; rfl⟩
          · exact .inr ⟨hy, by rw [hy0]; exact beq_eq_false_iff_ne.2 hy⟩
        have hm1 : y = 0 → (min ((zn : Int) + 1) 2) = ((min (SM.zz zn y) 2 : Nat) : Int) := by intro h; rw [h]; simp [SM.zz]; try omega
        have hm2 : y ≠ 0 → (0 : Int) = ((min (SM.zz zn y) 2 : Nat) : Int) := by intro h; simp [SM.zz, h]
        have Hm1 := Lib.hid hm1
        have Hm2 := Lib.hid hm2
        have Hcase := Lib.hid hcase
        clear hcase hzb hyb hy0 hm1 hm2
        rcases hystate with ⟨hy, hyb⟩ | ⟨hy, hyb⟩ <;> rcases hstate with hz | ⟨rfl, hz⟩
        all_goals
          have Hy := Lib.hid hy
          clear hy
          go_wp2_with (at_builtin; refine wpl_append_ow (by rfl) _ _ (by rfl) w.heap.size _ _ _ [y] (by rfl) (by rfl) (HO.out.to ((Touch.refl _ (fun _ => False)).alloc _) (fun _ _ _ _ h => h)) (Sl.one _ y) ?l2 ?b2 ?_)
          case l2 => have := Hl.out; first | omega | (simp; omega)
          case b2 => first | omega | (simp; omega)
          intro v2 w2 ho2 ht2 _
          have Hf := Lib.hid (Fin.out v2 w2 _ (fun _ h => h.1) Hcase.out ho2 ht2)
          have hc2 : w2.cell? ⟨g, o + k, none⟩ = some (.int .u8 (y : Int)) := by
            refine (ht2.cell (p := ⟨g, o + k, none⟩) (by simp; omega) (by simp; intro h; omega)).trans ?_
            exact (World.cell?_of_block (Below.heap_alloc wr _ g (by omega))).trans hc
          clear ho2 ht2 hc
          go_wp2_with fail
          go_roundw
          case rel =>
            obtain ⟨k', out', zn', q1, q2, q3, q4⟩ := Hf.out
            refine ⟨k', out', zn', q1, q2, Eq.trans (congrArg (Value.int .i64) ?_) q3, q4⟩
            first
            | (rw [show SM.zz _ y = _ + 1 from if_pos Hy.out]; first | omega | rfl | (simp; omega))
            | (rw [show SM.zz _ y = 0 from if_neg Hy.out]; first | omega | rfl | (simp; omega))
          case measure => (try simp [intOf]); (try omega)
    · obtain rfl : k = p.length := by omega
      rw [List.drop_length] at hesc
      have e1 : SM.stF 0 p = out := by rw [hesc]; simp [SM.stF]
      have hback := SM.un_back p
      have hst := SM.un_st p
      have hnn := SM.un_none p
      rw [e1] at hback hst
      have hob : ∀ x ∈ out, x < 256 := by rw [← e1]; exact fun x hx => Hb.out x (SM.stF_mem p 0 x hx)
      have heb := SM.esc_byte hob
      have hE := fun (w2 : World) (h2 : Sl w2 u4 out) => resc_c w2 u4 out h2 (by omega)
      have hl3 := SM.length_esc out 0
      have HE := Lib.hid hE
      have Hback := Lib.hid hback
      have Hst := Lib.hid hst
      have Hnn := Lib.hid hnn
      have Hob := Lib.hid hob
      have Heb := Lib.hid heb
      clear hesc e1 hT hback hst hnn hob heb hE
      go_wp2_with fail
      refine (HE.out _ HO.out.sl).mono ?_
      rintro e w2 ⟨v2, rfl, ho2, ht2⟩
      have Ho2 := Lib.hid ho2
      have Ht2 := Lib.hid ht2
      have hO2 := HO.out.to ht2 (fun _ _ _ _ h => h)
      have HO2 := Lib.hid hO2
      have hp2 := (H.out.to HT.out (fun _ _ _ h => h)).to ht2 (fun _ _ _ h => h)
      have Hp2 := Lib.hid hp2
      clear ho2 ht2 hO2 hp2
      by_cases hz : SM.endz out = true
      · have e3 : SM.escE out = 3 := by unfold SM.escE; rw [if_pos hz]
        have hn : ¬ (SM.un p).isSome = true := fun h => by rw [(Hback.out.2 h).1] at hz; cases hz
        have e5 : SM.unR p = [] := Hnn.out hn
        have e6 : SM.unE p = 3 := by unfold SM.unE; rw [if_neg hn]
        have He5 := Lib.hid e5
        have He6 := Lib.hid e6
        rw [e3]
        clear hn e3 e5 e6 hz
        go_wp2_with fail
        go_ret2
        rw [He5.out, He6.out]
        exact ⟨_, rfl, Ow.nil _ _, HT.out.trans Ht2.out (fun i hi => .inl hi)⟩
      · have e3 : SM.escE out = 0 := by unfold SM.escE; rw [if_neg hz]
        have e4 : SM.escR out = SM.esc out := by unfold SM.escR; rw [if_neg hz]
        have hsame := fun (w2 : World) (h1 : Sl w2 (.slice A p.length c) p) (h2 : Sl w2 v2 (SM.esc out)) => same_dec w2 _ v2 p (SM.esc out) h1 h2 Hb.out Heb.out
        have Hsame := Lib.hid hsame
        have ho2 := Ho2.out
        rw [e4] at ho2
        have Ho2 := Lib.hid ho2
        rw [e3]
        by_cases hsm : p = SM.esc out
        · have hsome : (SM.un p).isSome = true := Hback.out.1 ⟨by simpa using hz, hsm.symm⟩
          have e5 : SM.unR p = out := Hst.out hsome
          have e6 : SM.unE p = 0 := by unfold SM.unE; rw [if_pos hsome]
          have hs := Hsame.out w2 Hp2.out Ho2.out.sl
          rw [decide_eq_true hsm] at hs
          have He5 := Lib.hid e5
          have He6 := Lib.hid e6
          have Hs := Lib.hid hs
          clear hsome e3 e4 e5 e6 hz hsm hsame ho2 hs
          go_wp2_with fail
          refine Hs.out.mono ?_
          rintro e w3 ⟨rfl, rfl⟩
          go_wp2_with fail
          go_ret2
          rw [He5.out, He6.out]
          exact ⟨_, rfl, HO2.out, HT.out.trans Ht2.out (fun i hi => .inl hi)⟩
        · have hn : ¬ (SM.un p).isSome = true := fun h => hsm (Hback.out.2 h).2.symm
          have e5 : SM.unR p = [] := Hnn.out hn
          have e6 : SM.unE p = 3 := by unfold SM.unE; rw [if_neg hn]
          have hs := Hsame.out w2 Hp2.out Ho2.out.sl
          rw [decide_eq_false hsm] at hs
          have He5 := Lib.hid e5
          have He6 := Lib.hid e6
          have Hs := Lib.hid hs
          clear hn e3 e4 e5 e6 hz hsm hsame ho2 hs
          go_wp2_with fail
          refine Hs.out.mono ?_
          rintro e w3 ⟨rfl, rfl⟩
          go_wp2_with fail
          go_ret2
          rw [He5.out, He6.out]
          exact ⟨_, rfl, Ow.nil _ _, HT.out.trans Ht2.out (fun i hi => .inl hi)⟩
end Go.Proofs.YtpkjogjdacogeaaDoor
