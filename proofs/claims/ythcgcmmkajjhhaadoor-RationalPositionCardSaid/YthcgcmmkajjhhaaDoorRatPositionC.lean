/- RationalPosition, with the tables that it names tied to the program: for every input the law returns true, and each argument reads behind the call as it read before. No condition but the card's. -/
import Derived.Test.YthcgcmmkajjhhaaDoorRows
import Derived.Test.YthcgcmmkajjhhaaDoorCards
import Derived.Test.YthcgcmmkajjhhaaDoorTie
import Derived.Test.YthcgcmmkajjhhaaDoorRatLP
import Derived.ProofKit
import Derived.OpenShut
import Derived.Lib.SmallJoins
import Derived.Carry
import Derived.LaidMore
import Derived.Lay
import Derived.Stop.Joined
import Derived.SevenTiedAt
namespace Go.Proofs.YthcgcmmkajjhhaaDoor.rationalPosition
open Go.ChangeShapes Go.WideShapes Go.ChangeAt Go.RowKit Go.Joins
set_option linter.unusedVariables false

theorem own : ownKnob Tryd.prog.godebug = none := by kernel_rfl
theorem laidOut : laidOutB Tryd.prog = true := by kernel_rfl
theorem cellsRat : Tryd.prog.cellsOf 23 = 2 := by kernel_rfl

set_option maxRecDepth 100000 in
theorem lifted (os : Os) (started : os.Started) (H : Type) (enc : TypeId × Value → H) :
    ReturnsInHanded {} Tryd.checked os 3 .any (fun w args => (Rows.rationalPositionSpec.pre enc Tryd.prog Tryd.f3 [] false w args ∧ laidMetH Tryd.prog Rows.rationalPositionRow.laid w) ∧ sizedMet enc Tryd.prog Tryd.f3 (OpenSpec.ofChange Rows.rationalPositionSpec) false w args)
      (Rows.rationalPositionSpec.post enc Tryd.prog Tryd.f3 false true false false) := by
  refine returnsInHanded_of_change_and (C := Tryd.checked) (X := fun w _ => laidMetH Tryd.prog Rows.rationalPositionRow.laid w) (fun _ _ _ hh h => h.of_heap hh) own started (by kernel_rfl) Tryd.func3
    (ChangeSpec.witness_shaped (enc := enc) (C := Tryd.checked) (os := os) (X := fun w _ => laidMetH Tryd.prog Rows.rationalPositionRow.laid w) false (World.laidAll Tryd.prog os Rows.rationalPositionRow.laid) #[.int .i64 0, .agg #[.int .i64 0, .int .i64 0], .agg #[.int .i64 0, .int .i64 0]] 8 (World.laidAll_os _ _ _) (World.shaped_of_ZipB (by kernel_rfl) (by kernel_rfl)) (by kernel_rfl) (by kernel_rfl) (by kernel_rfl)
      (by rw [MakeChecks.laidMetH_plain _ _ _ (by kernel_rfl)]; exact laidMet_laidAll _ (by kernel_rfl) (by kernel_rfl))) ?_
  intro W base args ds gs before hval0 hW _ _ hL _
  rw [MakeChecks.laidMetH_plain _ _ _ (by kernel_rfl)] at hL
  have hU := us_laid hL
  have hval : ∀ (j : Nat) t v, Tryd.f3.params[j]? = some t → args[j]? = some v → Value.okWide Tryd.prog W .any base t v := hval0
  have hW' := hW
  obtain ⟨p, q, hA0, hV, rfl, hfz, hnd⟩ := hW
  have hA : DataW.TrodAll enc Tryd.prog W 0 (fun _ => true) true Tryd.f3.params.toList args.toList ds p := hA0
  rw [Tryd.params3] at hA hval
  obtain ⟨v0, vs0, d0, ds0, p0, q0, hargs, rfl, rfl, h0, r0⟩ := trodAll_cons hA
  obtain ⟨v1, vs1, d1, ds1, p1, q1, rfl, rfl, rfl, h1, r1⟩ := trodAll_cons r0
  obtain ⟨v2, vs2, d2, ds2, p2, q2, rfl, rfl, rfl, h2, r2⟩ := trodAll_cons r1
  obtain ⟨rfl, rfl, rfl⟩ := trodAll_nil r2
  obtain rfl : args = #[v0, v1, v2] := by cases args; simp_all
  obtain ⟨rfl, rfl⟩ := trodVars_none hV
  obtain ⟨a0, rfl, rfl, rfl, w0⟩ := open_int Tryd.underlying2 (hval 0 2 v0 rfl rfl) h0
  have b0 := bounds_i64 w0
  obtain ⟨x1, z1, y1, u1, m1, rfl, rfl, rfl, hy1, hu1⟩ := open_agg2 Tryd.underlying23 (by kernel_rfl) cellsRat (hval 1 23 v1 rfl rfl) h1
  obtain ⟨n1, en1, rfl, wn1⟩ := DataW.trod_int Tryd.underlying2 hy1
  obtain ⟨d1d, ed1, rfl, wd1⟩ := DataW.trod_int Tryd.underlying2 hu1
  simp at en1 ed1
  subst en1 ed1
  have bn1 := bounds_i64 wn1
  have bd1 := bounds_i64 wd1
  obtain ⟨x2, z2, y2, u2, m2, rfl, rfl, rfl, hy2, hu2⟩ := open_agg2 Tryd.underlying23 (by kernel_rfl) cellsRat (hval 2 23 v2 rfl rfl) h2
  obtain ⟨n2, en2, rfl, wn2⟩ := DataW.trod_int Tryd.underlying2 hy2
  obtain ⟨d2d, ed2, rfl, wd2⟩ := DataW.trod_int Tryd.underlying2 hu2
  simp at en2 ed2
  subst en2 ed2
  have bn2 := bounds_i64 wn2
  have bd2 := bounds_i64 wd2
  clear hA0 hval0
  simp only [List.append_nil] at hW'
  refine (lawPosition_c a0 n1 d1d n2 d2d b0 bn1 bd1 bn2 bd2 W hU).mono fun e W' ⟨he, hb⟩ => ?_
  subst he
  exact ⟨_, rfl, _, _, _, [], [], [], hW', (trodAll_cons_mk (shut_bool Tryd.underlying4 _) trodAll_mk0), (trodAll_cons_mk (shut_int Tryd.underlying2 w0) (trodAll_cons_mk (shut_agg2 (y0 := (.lit (.int .i64 n1), [])) (y1 := (.lit (.int .i64 d1d), [])) Tryd.underlying23 (by kernel_rfl) cellsRat ⟨1, by simp [DataW.trod, Tryd.underlying2, wn1]⟩ ⟨1, by simp [DataW.trod, Tryd.underlying2, wd1]⟩) (trodAll_cons_mk (shut_agg2 (y0 := (.lit (.int .i64 n2), [])) (y1 := (.lit (.int .i64 d2d), [])) Tryd.underlying23 (by kernel_rfl) cellsRat ⟨1, by simp [DataW.trod, Tryd.underlying2, wn2]⟩ ⟨1, by simp [DataW.trod, Tryd.underlying2, wd2]⟩) trodAll_mk0))), rfl, hb.frame _, fun h => by cases h⟩

theorem over : Rows.rationalPositionRow.holds Tryd.pinned (OpenSpec.ofChange Rows.rationalPositionSpec) :=
  OpenClaim.holds_of_wide 3 Tryd.f3 rfl rfl rfl rfl rfl rfl rfl ⟨rfl, rfl, rfl, rfl, rfl⟩ rfl rfl rfl rfl rfl (by kernel_rfl) Tryd.func3 (by kernel_rfl)
    (of_decide_eq_true (by kernel_rfl)) (by unfold Func.isWrapper; first | (rw [if_pos (by decide +kernel)]; kernel_rfl) | (rw [if_neg (by decide +kernel)]; exact ⟨rfl, rfl⟩))
    (fun os started H enc _ => lifted os started H enc)

theorem proved : Rows.RationalPositionCardSaid :=
  Claim7.holds_tied_plain_at .later [] [.data] true _ true
    over (fun _ h => by cases h) (by kernel_rfl) (fun _ h => by cases h) rationalPosition_row_tie rfl ⟨rfl, rfl⟩ (by kernel_rfl) rfl
    (fun f fn hf hfn => by
      obtain rfl : f = 3 := Option.some.inj ((show Tryd.prog.funcNamed "cutroom/cutroomlaw01.RationalPosition" = some 3 by kernel_rfl).symm.trans hf) |>.symm
      obtain rfl : fn = Tryd.f3 := (Option.some.inj (Tryd.func3.symm.trans hfn)).symm
      exact ⟨by kernel_rfl, fun j t ht => by
        rw [Tryd.params3] at ht
        have hm : t ∈ [2, 23, 23] := by simpa using Array.mem_of_getElem? ht
        have hall : ([2, 23, 23].all fun u => !Tryd.prog.wantsStandIn u) = true := by kernel_rfl
        exact (show Tryd.prog.wantsStandIn t = false by simpa using List.all_eq_true.1 hall t hm)⟩)
    (by kernel_rfl)
#print axioms proved
end Go.Proofs.YthcgcmmkajjhhaaDoor.rationalPosition
