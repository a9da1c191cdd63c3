/- Plain mathematics: an escaped payload holds no start code; units that can be formatted. -/
import Derived.Test.YtpkjogjdacogeaaDoorStM
namespace Go.Proofs.YtpkjogjdacogeaaDoor
namespace SM
set_option linter.unusedVariables false
set_option linter.unusedSimpArgs false

def okF : Nat → List Nat → Prop
  | _, [] => True
  | z, c :: r => (z = 2 → 3 ≤ c) ∧ okF (min (zz z c) 2) r
theorem okF_esc (p : List Nat) : ∀ z, z ≤ 2 → okF z (escF z p) := by
  induction p with
  | nil => intro z _; trivial
  | cons c r ih =>
    intro z hz
    unfold escF
    by_cases h : z = 2 ∧ c < 4
    · rw [if_pos h]
      refine ⟨fun _ => by decide, ?_⟩
      have e : min (zz z 3) 2 = 0 := rfl
      rw [e]
      refine ⟨fun h => by omega, ?_⟩
      rw [Nat.min_eq_left (zz0_le c)]
      exact ih _ (zz0_le c)
    · rw [if_neg h]
      refine ⟨fun h2 => ?_, ?_⟩
      · have : ¬ c < 4 := fun h3 => h ⟨h2, h3⟩
        omega
      · rw [Nat.min_eq_left (zz_le hz h)]
        exact ih _ (zz_le hz h)
/-- nowhere two bytes 0 and then one less than 3 -/
def Clean (l : List Nat) : Prop := ∀ i, i + 2 < l.length → ¬ (l.getD i 0 = 0 ∧ l.getD (i + 1) 0 = 0 ∧ l.getD (i + 2) 0 < 3)
theorem clean_ok (l : List Nat) : ∀ z, z ≤ 2 → okF z l → Clean l := by
  induction l with
  | nil => intro z _ _ i hi; simp at hi
  | cons a r ih =>
    intro z hz h i hi
    cases i with
    | zero =>
      rintro ⟨h0, h1, h2⟩
      cases r with
      | nil => simp at hi
      | cons b r =>
        cases r with
        | nil => simp at hi
        | cons c r =>
          simp at h0 h1 h2
          subst h0 h1
          have h3 := h.2.2.1
          have e1 : min (zz (min (zz z 0) 2) 0) 2 = 2 := by simp [zz]; omega
          have := h3 e1
          omega
    | succ i =>
      have := ih _ (by omega) h.2 i (by simp at hi; omega)
      simpa using this
theorem fmt_clean (t : Nat) (ht : 1 ≤ t) (p : List Nat) : Clean ((0 :: 0 :: 1 :: t :: esc p).drop 1) := by
  refine clean_ok _ 0 (by omega) ?_
  have e : min (zz (min (zz (min (zz 0 0) 2) 1) 2) t) 2 = 0 := by simp [zz]; omega
  refine ⟨fun h => by omega, fun h => by simp [zz] at h, fun h => by simp [zz] at h, ?_⟩
  rw [e]
  exact okF_esc p 0 (by omega)
theorem esc_clean (p : List Nat) : Clean (esc p) := clean_ok _ 0 (by omega) (okF_esc p 0 (by omega))

/-- can be formatted, and is not long -/
def Fmd (q : Int × List Nat) : Prop := q.2.length ≤ 100 ∧ (1 ≤ q.1 ∧ q.1 ≤ 255) ∧ endz q.2 = false
def Formed (us : List (Int × List Nat)) : Prop := us.length ≤ 20 ∧ ∀ q ∈ us, Fmd q
/-- the bytes of a unit -/
def one (q : Int × List Nat) : List Nat := 0 :: 0 :: 1 :: q.1.toNat :: esc q.2
theorem length_one (q : Int × List Nat) : (one q).length = 4 + (esc q.2).length := by simp [one]; omega
theorem one_last (q : Int × List Nat) (h : Fmd q) : (one q).getD ((one q).length - 1) 0 ≠ 0 := by
  intro h0
  have hz := endz_at (one q)
  rw [h0] at hz
  have hp : 0 < (one q).length := by simp [one]
  rw [decide_eq_true hp] at hz
  have hz : endz (one q) = true := hz
  unfold one at hz
  by_cases he : esc q.2 = []
  · rw [he] at hz
    have := h.2.1
    simp [endz] at hz
    omega
  · rw [endz_cons _ (by simp), endz_cons _ (by simp), endz_cons _ (by simp), endz_cons _ he] at hz
    have := endz_esc q.2 0
    rw [show escF 0 q.2 = esc q.2 from rfl, hz, h.2.2] at this
    cases this
end SM
end Go.Proofs.YtpkjogjdacogeaaDoor
