/- For the law of Damage: what a changed byte leaves; same, decided. -/
import Derived.Test.YtpkjogjdacogeaaDoorStK
import Derived.Laws.BitsAllLaws
namespace Go.Proofs.YtpkjogjdacogeaaDoor
open Go.RowKit Go.Sort
set_option linter.unusedVariables false
set_option linter.unusedSimpArgs false

namespace SM
theorem want_at (zs : List (Nat × Int × List Nat)) : ∀ off k z h, zs[k]? = some z → (want off zs)[k]? = some h → h.t = z.2.1 ∧ h.p = z.2.2 ∧ h.f = off + (flat (zs.take k)).length + z.1 ∧ h.o = h.f + (one z.2).length := by
  induction zs with
  | nil => intro off k z h hz; simp at hz
  | cons y r ih =>
    intro off k z h hz hh
    cases k with
    | zero =>
      simp at hz
      simp [want] at hh
      subst hz hh
      simp [flat]
    | succ k =>
      simp only [List.getElem?_cons_succ] at hz
      simp only [want, List.getElem?_cons_succ] at hh
      obtain ⟨h1, h2, h3, h4⟩ := ih _ k z h hz hh
      refine ⟨h1, h2, ?_, h4⟩
      rw [h3, List.take_succ_cons, flat_cons]
      simp
      omega
theorem split_at (zs : List (Nat × Int × List Nat)) (k : Nat) (z : Nat × Int × List Nat) (hz : zs[k]? = some z) : zs = zs.take k ++ z :: zs.drop (k + 1) := by
  have hk : k < zs.length := (List.getElem?_eq_some_iff.1 hz).1
  have e := List.take_append_drop k zs
  rw [List.drop_eq_getElem_cons hk] at e
  have : zs[k] = z := by rw [List.getElem?_eq_getElem hk] at hz; exact Option.some.inj hz
  rw [this] at e
  exact e.symm
/-- a byte of one unit's body is changed -/
theorem flat_set (zs : List (Nat × Int × List Nat)) (k m y : Nat) (q : Int × List Nat) (hz : zs[k]? = some (0, q)) (hm : m < (esc q.2).length) :
    (flat zs).set ((flat (zs.take k)).length + 4 + m) y = flat (zs.take k) ++ (0 :: 0 :: 1 :: q.1.toNat :: (esc q.2).set m y ++ flat (zs.drop (k + 1))) := by
  have e := split_at zs k (0, q) hz
  have e2 : flat zs = flat (zs.take k) ++ (one q ++ flat (zs.drop (k + 1))) := by
    conv => lhs; rw [e]
    rw [flat_app, flat_cons]
    simp
  rw [e2, List.set_append_right _ _ (by omega), show (flat (zs.take k)).length + 4 + m - (flat (zs.take k)).length = m + 4 by omega,
    List.set_append_left _ _ (by rw [length_one]; omega)]
  rfl
theorem found (zs : List (Nat × Int × List Nat)) (k m y : Nat) (q : Int × List Nat) (hz : zs[k]? = some (0, q)) (hm : m < (esc q.2).length) (hall : ∀ z ∈ zs, Fmd z.2 ∧ z.1 = 0) :
    ∀ i, i ≠ k → ∀ h, (want 0 zs)[i]? = some h → h ∈ units ((flat zs).set ((flat (zs.take k)).length + 4 + m) y) := by
  intro i hi h hh
  rw [flat_set zs k m y q hz hm]
  have hk : k < zs.length := (List.getElem?_eq_some_iff.1 hz).1
  have e := split_at zs k (0, q) hz
  rw [e] at hh
  have hq := (hall _ (List.mem_of_getElem? hz)).1
  have := damage (zs.take k) (zs.drop (k + 1)) q ((esc q.2).set m y) (by simp) hq (fun z h => hall z (List.mem_of_mem_take h)) (fun z h => hall z (List.mem_of_mem_drop h)) i (by rw [List.length_take]; omega) h hh
  exact this
theorem items_body : ∀ n l off, ∀ it ∈ items n l off, ∀ x ∈ it.body, x ∈ l := by
  intro n
  induction n with
  | zero => intro l off it h; simp [items] at h
  | succ n ih =>
    intro l off it h x hx
    match l, h with
    | [], h => simp [items] at h
    | [_], h => simp [items] at h
    | [_, _], h => simp [items] at h
    | [_, _, _], h => simp [items] at h
    | a :: b :: c :: t :: r, h =>
      unfold items at h
      simp only [List.mem_cons] at h
      rcases h with rfl | h
      · have := List.mem_of_mem_take (List.mem_of_mem_take hx)
        simp [this]
      · have := List.mem_of_mem_drop (ih _ _ it h x hx)
        simp [this]
theorem units_byte {b : List Nat} (hb : ∀ x ∈ b, x < 256) : ∀ h ∈ units b, ∀ x ∈ h.p, x < 256 := by
  intro h hh x hx
  unfold units hits at hh
  rw [List.mem_filterMap] at hh
  obtain ⟨it, hit, hof⟩ := hh
  unfold hitOf at hof
  cases hu : un it.body with
  | none => rw [hu] at hof; cases hof
  | some p =>
    rw [hu] at hof
    injection hof with hof
    subst hof
    have hst := un_st it.body (by rw [hu]; rfl)
    have e : unR it.body = p := by unfold unR; rw [hu]; rfl
    rw [e] at hst
    simp only at hx
    rw [hst] at hx
    exact hb x (List.mem_of_mem_drop (items_body _ _ _ it hit x (stF_mem _ _ x hx)))
theorem want_mem (zs : List (Nat × Int × List Nat)) : ∀ off, ∀ h ∈ want off zs, ∃ z ∈ zs, h.p = z.2.2 := by
  induction zs with
  | nil => intro off h hh; simp [want] at hh
  | cons z r ih =>
    intro off h hh
    simp only [want, List.mem_cons] at hh
    rcases hh with rfl | hh
    · exact ⟨z, by simp, rfl⟩
    · obtain ⟨y, hy, e⟩ := ih _ h hh
      exact ⟨y, by simp [hy], e⟩
def hitB (h h' : Hit) : Bool := h.f == h'.f && (h.o == h'.o && (h.x == h'.x && (h.t == h'.t && decide (h.p = h'.p))))
theorem hitB_self (h : Hit) : hitB h h = true := by simp [hitB]
end SM

theorem sameU_d (w : World) (t t' : Int) (v v' : Value) (p p' : List Nat) (h : Sl w v p) (h' : Sl w v' p') (hb : ∀ x ∈ p, x < 256) (hb' : ∀ x ∈ p', x < 256) :
    Calls Tryd.prog 19 #[.agg #[.int .i64 t, v], .agg #[.int .i64 t', v']] w fun e w' => e = .returned (.bool (t == t' && decide (p = p'))) ∧ Touch w w' (fun _ => False) := by
  have T2 : Touch w ((w.alloc (.cells #[.int .i64 t, v] 33)).alloc (.cells #[.int .i64 t', v'] 33)) (fun _ => False) := ((Touch.refl _ _).alloc _).alloc _
  have hs := same_dec _ v v' p p' (h.to T2 (fun _ _ _ h => h)) (h'.to T2 (fun _ _ _ h => h)) hb hb'
  have Hs := Lib.hid hs
  have HT := Lib.hid T2
  clear hs T2 h h' hb hb'
  by_cases ht : t = t'
  · subst ht
    generalize decide (p = p') = dd at *
    have e0 : (t == t && dd) = dd := by simp
    rw [e0]
    clear e0
    go_enter Tryd.func19, Tryd.ntmps19
    go_wp2_with fail
    refine Hs.out.mono ?_
    rintro e w1 ⟨rfl, rfl⟩
    go_wp2_with fail
    go_ret
    exact ⟨rfl, HT.out⟩
  · have hb : (t == t') = false := beq_eq_false_iff_ne.2 ht
    have e0 : (t == t' && decide (p = p')) = false := by rw [hb]; rfl
    rw [e0]
    clear e0 ht
    go_enter Tryd.func19, Tryd.ntmps19
    go_wp2_with fail
    go_ret
    exact ⟨rfl, HT.out⟩

set_option maxHeartbeats 400000 in
theorem same_d (w : World) (h h' : SM.Hit) (u u' : Value) (hs : Sl w u h.p) (hs' : Sl w u' h'.p) (hb : ∀ x ∈ h.p, x < 256) (hb' : ∀ x ∈ h'.p, x < 256) :
    Calls Tryd.prog 9 #[hitV h u, hitV h' u'] w fun e w' => e = .returned (.bool (SM.hitB h h')) ∧ Touch w w' (fun _ => False) := by
  obtain ⟨t, p, f, o, x⟩ := h
  obtain ⟨t', p', f', o', x'⟩ := h'
  simp only at hs hs' hb hb'
  unfold hitV SM.hitB
  simp only
  have T2 : Touch w ((w.alloc (.cells #[.int .i64 t, u, .int .i64 (f : Int), .int .i64 (o : Int), .int .i64 (x : Int)] 35)).alloc (.cells #[.int .i64 t', u', .int .i64 (f' : Int), .int .i64 (o' : Int), .int .i64 (x' : Int)] 36)) (fun _ => False) := ((Touch.refl _ _).alloc _).alloc _
  have hc := sameU_d _ t t' u u' p p' (hs.to T2 (fun _ _ _ h => h)) (hs'.to T2 (fun _ _ _ h => h)) hb hb'
  have Hc := Lib.hid hc
  have HT := Lib.hid T2
  generalize (t == t' && decide (p = p')) = dd at *
  have e1 : ((f : Int) == (f' : Int)) = (f == f') := beq_k f f'
  have e2 : ((o : Int) == (o' : Int)) = (o == o') := beq_k o o'
  have e3 : ((x : Int) == (x' : Int)) = (x == x') := beq_k x x'
  rw [← e1, ← e2, ← e3]
  clear hc T2 hs hs' e1 e2 e3 hb hb'
  by_cases h1 : f = f'
  · subst h1
    by_cases h2 : o = o'
    · subst h2
      by_cases h3 : x = x'
      · subst h3
        have e0 : ((f : Int) == (f : Int) && ((o : Int) == (o : Int) && ((x : Int) == (x : Int) && dd))) = dd := by simp
        rw [e0]
        clear e0
        go_enter Tryd.func9, Tryd.ntmps9
        go_wp2_with fail
        refine Hc.out.mono ?_
        rintro e w1 ⟨rfl, ht⟩
        have Ht := Lib.hid ht
        clear ht
        go_wp2_with fail
        go_ret
        exact ⟨rfl, HT.out.trans Ht.out (fun i hi => .inl hi)⟩
      · have hb : ((x : Int) == (x' : Int)) = false := beq_eq_false_iff_ne.2 (by omega)
        have e0 : ((f : Int) == (f : Int) && ((o : Int) == (o : Int) && ((x : Int) == (x' : Int) && dd))) = false := by rw [hb]; simp
        rw [e0]
        clear e0 h3
        go_enter Tryd.func9, Tryd.ntmps9
        go_wp2_with fail
        go_ret
        exact ⟨rfl, HT.out⟩
    · have hb : ((o : Int) == (o' : Int)) = false := beq_eq_false_iff_ne.2 (by omega)
      have e0 : ((f : Int) == (f : Int) && ((o : Int) == (o' : Int) && ((x : Int) == (x' : Int) && dd))) = false := by rw [hb]; simp
      rw [e0]
      clear e0 h2
      go_enter Tryd.func9, Tryd.ntmps9
      go_wp2_with fail
      go_ret
      exact ⟨rfl, HT.out⟩
  · have hb : ((f : Int) == (f' : Int)) = false := beq_eq_false_iff_ne.2 (by omega)
    have e0 : ((f : Int) == (f' : Int) && ((o : Int) == (o' : Int) && ((x : Int) == (x' : Int) && dd))) = false := by rw [hb]; simp
    rw [e0]
    clear e0 h1
    go_enter Tryd.func9, Tryd.ntmps9
    go_wp2_with fail
    go_ret
    exact ⟨rfl, HT.out⟩
end Go.Proofs.YtpkjogjdacogeaaDoor
