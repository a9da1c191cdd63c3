/- SameUnit; same. -/
import Derived.Test.YtpkjogjdacogeaaDoorStS
namespace Go.Proofs.YtpkjogjdacogeaaDoor
open Go.RowKit
set_option linter.unusedVariables false
set_option linter.unusedSimpArgs false

/-- the answer of a comparison -/
def CmpAns (w w' : World) (e : Ending) (P : Prop) : Prop := ∃ b, e = .returned (.bool b) ∧ (P → b = true) ∧ Touch w w' (fun _ => False)

theorem sameU_c (w : World) (t t' : Int) (v v' : Value) (p p' : List Nat) (h : Sl w v p) (h' : Sl w v' p') :
    Calls Tryd.prog 19 #[.agg #[.int .i64 t, v], .agg #[.int .i64 t', v']] w fun e w' => CmpAns w w' e (t = t' ∧ p = p') := by
  have T2 : Touch w ((w.alloc (.cells #[.int .i64 t, v] 33)).alloc (.cells #[.int .i64 t', v'] 33)) (fun _ => False) := ((Touch.refl _ _).alloc _).alloc _
  have hs := same_any _ v v' p p' (h.to T2 (fun _ _ _ h => h)) (h'.to T2 (fun _ _ _ h => h))
  have Hs := Lib.hid hs
  have HT := Lib.hid T2
  clear hs T2 h h'
  by_cases ht : t = t'
  · subst ht
    go_enter Tryd.func19, Tryd.ntmps19
    go_wp2_with fail
    refine Hs.out.mono ?_
    rintro e w1 ⟨⟨b, rfl, hb⟩, rfl⟩
    have Hb := Lib.hid hb
    clear hb
    go_wp2_with fail
    go_ret
    exact ⟨_, rfl, fun h => (by simp [Hb.out h.2]), HT.out⟩
  · have hb : (t == t') = false := beq_eq_false_iff_ne.2 ht
    have Ht := Lib.hid ht
    clear ht
    go_enter Tryd.func19, Tryd.ntmps19
    go_wp2_with fail
    go_ret
    exact ⟨_, rfl, fun h => absurd h.1 Ht.out, HT.out⟩

/-- the value of what was found -/
def hitV (h : SM.Hit) (u : Value) : Value := .agg #[.int .i64 h.t, u, .int .i64 (h.f : Int), .int .i64 (h.o : Int), .int .i64 (h.x : Int)]

set_option maxHeartbeats 400000 in
theorem same_f (w : World) (h h' : SM.Hit) (u u' : Value) (hs : Sl w u h.p) (hs' : Sl w u' h'.p) :
    Calls Tryd.prog 9 #[hitV h u, hitV h' u'] w fun e w' => CmpAns w w' e (h = h') := by
  obtain ⟨t, p, f, o, x⟩ := h
  obtain ⟨t', p', f', o', x'⟩ := h'
  simp only at hs hs'
  unfold hitV
  have T2 : Touch w ((w.alloc (.cells #[.int .i64 t, u, .int .i64 (f : Int), .int .i64 (o : Int), .int .i64 (x : Int)] 35)).alloc (.cells #[.int .i64 t', u', .int .i64 (f' : Int), .int .i64 (o' : Int), .int .i64 (x' : Int)] 36)) (fun _ => False) := ((Touch.refl _ _).alloc _).alloc _
  have hc := sameU_c _ t t' u u' p p' (hs.to T2 (fun _ _ _ h => h)) (hs'.to T2 (fun _ _ _ h => h))
  have Hc := Lib.hid hc
  have HT := Lib.hid T2
  have neq : ∀ (P : Prop), ¬ P → (SM.Hit.mk t p f o x = SM.Hit.mk t' p' f' o' x' → P) → (SM.Hit.mk t p f o x = SM.Hit.mk t' p' f' o' x' → false = true) := fun P h1 h2 h3 => absurd (h2 h3) h1
  have Neq := Lib.hid neq
  have e1 : ((f : Int) == (f' : Int)) = (f == f') := beq_k f f'
  have e2 : ((o : Int) == (o' : Int)) = (o == o') := beq_k o o'
  have e3 : ((x : Int) == (x' : Int)) = (x == x') := beq_k x x'
  have E1 := Lib.hid e1; have E2 := Lib.hid e2; have E3 := Lib.hid e3
  clear hc T2 hs hs' neq e1 e2 e3
  by_cases h1 : f = f'
  · subst h1
    by_cases h2 : o = o'
    · subst h2
      by_cases h3 : x = x'
      · subst h3
        go_enter Tryd.func9, Tryd.ntmps9
        go_wp2_with fail
        refine Hc.out.mono ?_
        rintro e w1 ⟨b, rfl, hb, ht⟩
        have Hb := Lib.hid hb; have Ht := Lib.hid ht
        clear hb ht
        go_wp2_with fail
        go_ret
        exact ⟨_, rfl, fun h => (by injection h with a1 a2; simp [Hb.out ⟨a1, a2⟩]), HT.out.trans Ht.out (fun i hi => .inl hi)⟩
      · have hb : ((x : Int) == (x' : Int)) = false := E3.out.trans (beq_eq_false_iff_ne.2 h3)
        have Hn := Lib.hid (Neq.out _ h3 (fun h => by injection h))
        clear h3
        go_enter Tryd.func9, Tryd.ntmps9
        go_wp2_with fail
        go_ret
        exact ⟨_, rfl, Hn.out, HT.out⟩
    · have hb : ((o : Int) == (o' : Int)) = false := E2.out.trans (beq_eq_false_iff_ne.2 h2)
      have Hn := Lib.hid (Neq.out _ h2 (fun h => by injection h))
      clear h2
      go_enter Tryd.func9, Tryd.ntmps9
      go_wp2_with fail
      go_ret
      exact ⟨_, rfl, Hn.out, HT.out⟩
  · have hb : ((f : Int) == (f' : Int)) = false := E1.out.trans (beq_eq_false_iff_ne.2 h1)
    have Hn := Lib.hid (Neq.out _ h1 (fun h => by injection h))
    clear h1
    go_enter Tryd.func9, Tryd.ntmps9
    go_wp2_with fail
    go_ret
    exact ⟨_, rfl, Hn.out, HT.out⟩
end Go.Proofs.YtpkjogjdacogeaaDoor
