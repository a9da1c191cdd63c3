/- RationalNearest, with the tables that it names tied to the program: for every input the law returns true, and each argument reads behind the call as it read before. No condition but the card's. -/
import Derived.Test.YthcgcmmkajjhhaaDoorRows
import Derived.Test.YthcgcmmkajjhhaaDoorCards
import Derived.Test.YthcgcmmkajjhhaaDoorTie
import Derived.Test.YthcgcmmkajjhhaaDoorRatLN
import Derived.ProofKit
import Derived.OpenShut
import Derived.Lib.SmallJoins
import Derived.Carry
import Derived.LaidMore
import Derived.Lay
import Derived.Stop.Joined
import Derived.SevenTiedAt
namespace Go.Proofs.YthcgcmmkajjhhaaDoor.rationalNearest
open Go.ChangeShapes Go.WideShapes Go.ChangeAt Go.RowKit Go.Joins
set_option linter.unusedVariables false

theorem own : ownKnob Tryd.prog.godebug = none := by kernel_rfl
theorem laidOut : laidOutB Tryd.prog = true := by kernel_rfl
theorem cellsRat : Tryd.prog.cellsOf 23 = 2 := by kernel_rfl

set_option maxRecDepth 100000 in
theorem lifted (os : Os) (started : os.Started) (H : Type) (enc : TypeId × Value → H) :
    ReturnsInHanded {} Tryd.checked os 6 .any (fun w args => (Rows.rationalNearestSpec.pre enc Tryd.prog Tryd.f6 [] false w args ∧ laidMetH Tryd.prog Rows.rationalNearestRow.laid w) ∧ sizedMet enc Tryd.prog Tryd.f6 (OpenSpec.ofChange Rows.rationalNearestSpec) false w args)
      (Rows.rationalNearestSpec.post enc Tryd.prog Tryd.f6 false true false false) := by
  refine returnsInHanded_of_change_and (C := Tryd.checked) (X := fun w _ => laidMetH Tryd.prog Rows.rationalNearestRow.laid w) (fun _ _ _ hh h => h.of_heap hh) own started (by kernel_rfl) Tryd.func6
    (ChangeSpec.witness_shaped (enc := enc) (C := Tryd.checked) (os := os) (X := fun w _ => laidMetH Tryd.prog Rows.rationalNearestRow.laid w) false (World.laidAll Tryd.prog os Rows.rationalNearestRow.laid) #[.int .i64 0, .int .i64 0, .agg #[.int .i64 0, .int .i64 0], .agg #[.int .i64 0, .int .i64 0]] 8 (World.laidAll_os _ _ _) (World.shaped_of_ZipB (by kernel_rfl) (by kernel_rfl)) (by kernel_rfl) (by kernel_rfl) (by kernel_rfl)
      (by rw [MakeChecks.laidMetH_plain _ _ _ (by kernel_rfl)]; exact laidMet_laidAll _ (by kernel_rfl) (by kernel_rfl))) ?_
  intro W base args ds gs before hval0 hW _ _ hL _
  rw [MakeChecks.laidMetH_plain _ _ _ (by kernel_rfl)] at hL
  have hU := us_laid hL
  have hval : ∀ (j : Nat) t v, Tryd.f6.params[j]? = some t → args[j]? = some v → Value.okWide Tryd.prog W .any base t v := hval0
  have hW' := hW
  obtain ⟨p, q, hA0, hV, rfl, hfz, hnd⟩ := hW
  have hA : DataW.TrodAll enc Tryd.prog W 0 (fun _ => true) true Tryd.f6.params.toList args.toList ds p := hA0
  rw [Tryd.params6] at hA hval
  obtain ⟨v0, vs0, d0, ds0, p0, q0, hargs, rfl, rfl, h0, r0⟩ := trodAll_cons hA
  obtain ⟨v1, vs1, d1, ds1, p1, q1, rfl, rfl, rfl, h1, r1⟩ := trodAll_cons r0
  obtain ⟨v2, vs2, d2, ds2, p2, q2, rfl, rfl, rfl, h2, r2⟩ := trodAll_cons r1
  obtain ⟨v3, vs3, d3, ds3, p3, q3, rfl, rfl, rfl, h3, r3⟩ := trodAll_cons r2
  obtain ⟨rfl, rfl, rfl⟩ := trodAll_nil r3
  obtain rfl : args = #[v0, v1, v2, v3] := by cases args; simp_all
  obtain ⟨rfl, rfl⟩ := trodVars_none hV
  obtain ⟨a0, rfl, rfl, rfl, w0⟩ := open_int Tryd.underlying3 (hval 0 3 v0 rfl rfl) h0
  have b0 := bounds_i64 w0
  obtain ⟨a1, rfl, rfl, rfl, w1⟩ := open_int Tryd.underlying3 (hval 1 3 v1 rfl rfl) h1
  have b1 := bounds_i64 w1
  obtain ⟨x2, z2, y2, u2, m2, rfl, rfl, rfl, hy2, hu2⟩ := open_agg2 Tryd.underlying23 (by kernel_rfl) cellsRat (hval 2 23 v2 rfl rfl) h2
  obtain ⟨n2, en2, rfl, wn2⟩ := DataW.trod_int Tryd.underlying2 hy2
  obtain ⟨d2d, ed2, rfl, wd2⟩ := DataW.trod_int Tryd.underlying2 hu2
  simp at en2 ed2
  subst en2 ed2
  have bn2 := bounds_i64 wn2
  have bd2 := bounds_i64 wd2
  obtain ⟨x3, z3, y3, u3, m3, rfl, rfl, rfl, hy3, hu3⟩ := open_agg2 Tryd.underlying23 (by kernel_rfl) cellsRat (hval 3 23 v3 rfl rfl) h3
  obtain ⟨n3, en3, rfl, wn3⟩ := DataW.trod_int Tryd.underlying2 hy3
  obtain ⟨d3d, ed3, rfl, wd3⟩ := DataW.trod_int Tryd.underlying2 hu3
  simp at en3 ed3
  subst en3 ed3
  have bn3 := bounds_i64 wn3
  have bd3 := bounds_i64 wd3
  clear hA0 hval0
  simp only [List.append_nil] at hW'
  refine (lawNearest_c a0 a1 n2 d2d n3 d3d b0 b1 bn2 bd2 bn3 bd3 W hU).mono fun e W' ⟨he, hb⟩ => ?_
  subst he
  exact ⟨_, rfl, _, _, _, [], [], [], hW', (trodAll_cons_mk (shut_bool Tryd.underlying4 _) trodAll_mk0), (trodAll_cons_mk (shut_int Tryd.underlying3 w0) (trodAll_cons_mk (shut_int Tryd.underlying3 w1) (trodAll_cons_mk (shut_agg2 (y0 := (.lit (.int .i64 n2), [])) (y1 := (.lit (.int .i64 d2d), [])) Tryd.underlying23 (by kernel_rfl) cellsRat ⟨1, by simp [DataW.trod, Tryd.underlying2, wn2]⟩ ⟨1, by simp [DataW.trod, Tryd.underlying2, wd2]⟩) (trodAll_cons_mk (shut_agg2 (y0 := (.lit (.int .i64 n3), [])) (y1 := (.lit (.int .i64 d3d), [])) Tryd.underlying23 (by kernel_rfl) cellsRat ⟨1, by simp [DataW.trod, Tryd.underlying2, wn3]⟩ ⟨1, by simp [DataW.trod, Tryd.underlying2, wd3]⟩) trodAll_mk0)))), rfl, hb.frame _, fun h => by cases h⟩

theorem over : Rows.rationalNearestRow.holds Tryd.pinned (OpenSpec.ofChange Rows.rationalNearestSpec) :=
  OpenClaim.holds_of_wide 6 Tryd.f6 rfl rfl rfl rfl rfl rfl rfl ⟨rfl, rfl, rfl, rfl, rfl⟩ rfl rfl rfl rfl rfl (by kernel_rfl) Tryd.func6 (by kernel_rfl)
    (of_decide_eq_true (by kernel_rfl)) (by unfold Func.isWrapper; first | (rw [if_pos (by decide +kernel)]; kernel_rfl) | (rw [if_neg (by decide +kernel)]; exact ⟨rfl, rfl⟩))
    (fun os started H enc _ => lifted os started H enc)

theorem proved : Rows.RationalNearestCardSaid :=
  Claim7.holds_tied_plain_at .later [] [.data] true _ true
    over (fun _ h => by cases h) (by kernel_rfl) (fun _ h => by cases h) rationalNearest_row_tie rfl ⟨rfl, rfl⟩ (by kernel_rfl) rfl
    (fun f fn hf hfn => by
      obtain rfl : f = 6 := Option.some.inj ((show Tryd.prog.funcNamed "cutroom/cutroomlaw01.RationalNearest" = some 6 by kernel_rfl).symm.trans hf) |>.symm
      obtain rfl : fn = Tryd.f6 := (Option.some.inj (Tryd.func6.symm.trans hfn)).symm
      exact ⟨by kernel_rfl, fun j t ht => by
        rw [Tryd.params6] at ht
        have hm : t ∈ [3, 3, 23, 23] := by simpa using Array.mem_of_getElem? ht
        have hall : ([3, 3, 23, 23].all fun u => !Tryd.prog.wantsStandIn u) = true := by kernel_rfl
        exact (show Tryd.prog.wantsStandIn t = false by simpa using List.all_eq_true.1 hall t hm)⟩)
    (by kernel_rfl)
#print axioms proved
end Go.Proofs.YthcgcmmkajjhhaaDoor.rationalNearest
