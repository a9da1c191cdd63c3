/- RationalOps: for every input the law returns true, and each argument reads behind the call as it read before. No condition. -/
import Derived.Test.YtpoiojacpaglcaaRows
import Derived.Test.YtpoiojacpaglcaaRatLOps
import Derived.ProofKit
import Derived.OpenShut
import Derived.Lib.SmallJoins
namespace Go.Proofs.Ytpoiojacpaglcaa.rationalOps
open Go.ChangeShapes Go.WideShapes Go.ChangeAt Go.RowKit Go.Joins
set_option linter.unusedVariables false

theorem own : ownKnob Try.prog.godebug = none := by kernel_rfl
theorem cellsRat : Try.prog.cellsOf 23 = 2 := by kernel_rfl

set_option maxRecDepth 100000 in
theorem lifted (os : Os) (started : os.Started) (H : Type) (enc : TypeId × Value → H) :
    ReturnsInHanded {} Try.checked os 5 .any (Rows.rationalOpsSpec.pre6 enc Try.prog Try.f5 Rows.rationalOpsRow.domain false) (Rows.rationalOpsSpec.post enc Try.prog Try.f5 false true false false) := by
  refine returnsInHanded_of_change (C := Try.checked) own started (by kernel_rfl) Try.func5
    (ChangeSpec.witness6 (enc := enc) (C := Try.checked) false ⟨#[], #[.agg #[.int .i64 0, .int .i64 0], .agg #[.int .i64 0, .int .i64 0]], []⟩ 8 (by kernel_rfl) (by kernel_rfl) (by kernel_rfl) (by kernel_rfl)) ?_
  intro W base args ds gs before hval0 hW hcnd _
  have hval : ∀ (j : Nat) t v, Try.f5.params[j]? = some t → args[j]? = some v → Value.okWide Try.prog W .any base t v := hval0
  have hW' := hW
  obtain ⟨p, q, hA0, hV, rfl, hfz, hnd⟩ := hW
  have hA : DataW.TrodAll enc Try.prog W 0 (fun _ => true) true Try.f5.params.toList args.toList ds p := hA0
  rw [Try.params5] at hA hval
  obtain ⟨v0, vs0, d0, ds0, p0, q0, hargs, rfl, rfl, h0, r0⟩ := trodAll_cons hA
  obtain ⟨v1, vs1, d1, ds1, p1, q1, rfl, rfl, rfl, h1, r1⟩ := trodAll_cons r0
  obtain ⟨rfl, rfl, rfl⟩ := trodAll_nil r1
  obtain rfl : args = #[v0, v1] := by cases args; simp_all
  obtain ⟨rfl, rfl⟩ := trodVars_none hV
  obtain ⟨x0, z0, y0, u0, m0, rfl, rfl, rfl, hy0, hu0⟩ := open_agg2 Try.underlying23 (by kernel_rfl) cellsRat (hval 0 23 v0 rfl rfl) h0
  obtain ⟨n0, en0, rfl, wn0⟩ := DataW.trod_int Try.underlying2 hy0
  obtain ⟨d0d, ed0, rfl, wd0⟩ := DataW.trod_int Try.underlying2 hu0
  simp at en0 ed0
  subst en0 ed0
  have bn0 := bounds_i64 wn0
  have bd0 := bounds_i64 wd0
  obtain ⟨x1, z1, y1, u1, m1, rfl, rfl, rfl, hy1, hu1⟩ := open_agg2 Try.underlying23 (by kernel_rfl) cellsRat (hval 1 23 v1 rfl rfl) h1
  obtain ⟨n1, en1, rfl, wn1⟩ := DataW.trod_int Try.underlying2 hy1
  obtain ⟨d1d, ed1, rfl, wd1⟩ := DataW.trod_int Try.underlying2 hu1
  simp at en1 ed1
  subst en1 ed1
  have bn1 := bounds_i64 wn1
  have bd1 := bounds_i64 wd1
  clear hA0 hval0
  simp only [List.append_nil] at hW'
  refine (lawOps_c n0 d0d n1 d1d bn0 bd0 bn1 bd1 W).mono fun e W' ⟨he, hb⟩ => ?_
  subst he
  exact ⟨_, rfl, _, _, _, [], [], [], hW', (trodAll_cons_mk (shut_bool Try.underlying4 _) trodAll_mk0), (trodAll_cons_mk (shut_agg2 (y0 := (.lit (.int .i64 n0), [])) (y1 := (.lit (.int .i64 d0d), [])) Try.underlying23 (by kernel_rfl) cellsRat ⟨1, by simp [DataW.trod, Try.underlying2, wn0]⟩ ⟨1, by simp [DataW.trod, Try.underlying2, wd0]⟩) (trodAll_cons_mk (shut_agg2 (y0 := (.lit (.int .i64 n1), [])) (y1 := (.lit (.int .i64 d1d), [])) Try.underlying23 (by kernel_rfl) cellsRat ⟨1, by simp [DataW.trod, Try.underlying2, wn1]⟩ ⟨1, by simp [DataW.trod, Try.underlying2, wd1]⟩) trodAll_mk0)), rfl, hb.frame _, fun h => by cases h⟩

theorem over : Rows.rationalOpsRow.holds Try.pinned (OpenSpec.ofChange Rows.rationalOpsSpec) :=
  OpenClaim.holds_of_wide 5 Try.f5 rfl rfl rfl rfl rfl rfl rfl ⟨rfl, rfl, rfl, rfl, rfl⟩ rfl rfl rfl rfl rfl (by kernel_rfl) Try.func5 (by kernel_rfl)
    (of_decide_eq_true (by kernel_rfl)) (by unfold Func.isWrapper; first | (rw [if_pos (by decide +kernel)]; kernel_rfl) | (rw [if_neg (by decide +kernel)]; exact ⟨rfl, rfl⟩))
    (fun os started H enc _ => lifted os started H enc)

theorem proved : Rows.RationalOpsSaid := over
#print axioms proved
end Go.Proofs.Ytpoiojacpaglcaa.rationalOps
