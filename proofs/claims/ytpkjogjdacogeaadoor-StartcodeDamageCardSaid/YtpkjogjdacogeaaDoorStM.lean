/- Plain mathematics of units: escapes, and how they are taken away. Imports nothing of the program. -/
import Derived.Lib.Hide
namespace Go.Proofs.YtpkjogjdacogeaaDoor
namespace SM
set_option linter.unusedVariables false
set_option linter.unusedSimpArgs false

def zz (z c : Nat) : Nat := if c = 0 then z + 1 else 0
/-- the escaped bytes of p behind z bytes 0 -/
def escF : Nat → List Nat → List Nat
  | _, [] => []
  | z, c :: r => if z = 2 ∧ c < 4 then 3 :: c :: escF (zz 0 c) r else c :: escF (zz z c) r
def esc (p : List Nat) : List Nat := escF 0 p
/-- a byte 3 that is an escape: what follows it is less than 4 -/
def okE : List Nat → Bool
  | [] => false
  | d :: _ => decide (d < 4)
def unF : Nat → List Nat → Option (List Nat)
  | _, [] => some []
  | z, c :: r => if z = 2 ∧ c < 4 then (if c = 3 ∧ okE r = true then unF 0 r else none) else (unF (zz z c) r).map (c :: ·)
def stF : Nat → List Nat → List Nat
  | _, [] => []
  | z, c :: r => if z = 2 ∧ c = 3 then stF 0 r else c :: stF (min (zz z c) 2) r
def endz (p : List Nat) : Bool := p.getLast? == some 0

theorem zz_le {z c : Nat} (hz : z ≤ 2) (h : ¬ (z = 2 ∧ c < 4)) : zz z c ≤ 2 := by
  unfold zz; split <;> omega
theorem zz0_le (c : Nat) : zz 0 c ≤ 2 := by unfold zz; split <;> omega

theorem un_esc (p : List Nat) : ∀ z, z ≤ 2 → unF z (escF z p) = some p := by
  induction p with
  | nil => intro z _; rfl
  | cons c r ih =>
    intro z hz
    unfold escF
    by_cases h : z = 2 ∧ c < 4
    · rw [if_pos h]
      have h0 : ¬ ((0 : Nat) = 2 ∧ c < 4) := by omega
      rw [unF, if_pos ⟨h.1, by decide⟩, if_pos ⟨rfl, by simp [okE, h.2]⟩, unF, if_neg h0, ih _ (zz0_le c)]
      rfl
    · rw [if_neg h, unF, if_neg h, ih _ (zz_le hz h)]
      rfl
theorem esc_un (b : List Nat) : ∀ z p, z ≤ 2 → unF z b = some p → escF z p = b := by
  induction b with
  | nil => intro z p _ h; unfold unF at h; injection h with h; subst h; rfl
  | cons c r ih =>
    intro z p hz h
    unfold unF at h
    by_cases h1 : z = 2 ∧ c < 4
    · rw [if_pos h1] at h
      by_cases h2 : c = 3 ∧ okE r = true
      · rw [if_pos h2] at h
        have e := ih 0 p (by omega) h
        obtain ⟨rfl, h3⟩ := h2
        cases p with
        | nil => rw [← e] at h3; simp [escF, okE] at h3
        | cons d q =>
          unfold escF at e
          rw [if_neg (by omega)] at e
          rw [← e] at h3
          simp [okE] at h3
          unfold escF
          rw [if_pos ⟨h1.1, h3⟩, ← e]
      · rw [if_neg h2] at h; cases h
    · rw [if_neg h1] at h
      cases hu : unF (zz z c) r with
      | none => rw [hu] at h; cases h
      | some q =>
        rw [hu] at h
        injection h with h
        subst h
        unfold escF
        rw [if_neg h1, ih _ q (zz_le hz h1) hu]
theorem st_un (b : List Nat) : ∀ z p, z ≤ 2 → unF z b = some p → stF z b = p := by
  induction b with
  | nil => intro z p _ h; unfold unF at h; injection h
  | cons c r ih =>
    intro z p hz h
    unfold unF at h
    by_cases h1 : z = 2 ∧ c < 4
    · rw [if_pos h1] at h
      by_cases h2 : c = 3 ∧ okE r = true
      · rw [if_pos h2] at h
        unfold stF
        rw [if_pos ⟨h1.1, h2.1⟩]
        exact ih 0 p (by omega) h
      · rw [if_neg h2] at h; cases h
    · rw [if_neg h1] at h
      cases hu : unF (zz z c) r with
      | none => rw [hu] at h; cases h
      | some q =>
        rw [hu] at h
        injection h with h
        subst h
        have hle := zz_le hz h1
        unfold stF
        rw [if_neg (by omega), Nat.min_eq_left hle, ih _ q hle hu]

theorem endz_nil : endz [] = false := rfl
theorem endz_snoc (p : List Nat) (c : Nat) : endz (p ++ [c]) = (c == 0) := by simp [endz]
theorem endz_cons (c : Nat) {r : List Nat} (h : r ≠ []) : endz (c :: r) = endz r := by
  cases r with
  | nil => exact absurd rfl h
  | cons d q => simp [endz]
theorem endz_at (p : List Nat) : endz p = (decide (0 < p.length) && (p.getD (p.length - 1) 0 == 0)) := by
  rcases List.eq_nil_or_concat p with rfl | ⟨q, c, rfl⟩
  · rfl
  · simp [endz]
theorem escF_nil {z : Nat} {p : List Nat} : escF z p = [] ↔ p = [] := by
  cases p with
  | nil => simp [escF]
  | cons c r => unfold escF; split <;> simp
theorem endz_esc (p : List Nat) : ∀ z, endz (escF z p) = endz p := by
  induction p with
  | nil => intro z; rfl
  | cons c r ih =>
    intro z
    unfold escF
    by_cases hr : r = []
    · subst hr
      by_cases h : z = 2 ∧ c < 4
      · rw [if_pos h]; simp [escF, endz]
      · rw [if_neg h]; simp [escF, endz]
    · have hn : ∀ z, escF z r ≠ [] := fun z h => hr (escF_nil.1 h)
      by_cases h : z = 2 ∧ c < 4
      · rw [if_pos h, endz_cons _ (by simp), endz_cons _ (hn _), ih, endz_cons _ hr]
      · rw [if_neg h, endz_cons _ (hn _), ih, endz_cons _ hr]
theorem length_esc (p : List Nat) : ∀ z, (escF z p).length ≤ 2 * p.length := by
  induction p with
  | nil => intro z; simp [escF]
  | cons c r ih =>
    intro z
    unfold escF
    split
    · have := ih (zz 0 c); simp only [List.length_cons]; omega
    · have := ih (zz z c); simp only [List.length_cons]; omega

/-- what Escape answers: the bytes and the error -/
def escR (p : List Nat) : List Nat := if endz p = true then [] else esc p
def escE (p : List Nat) : Int := if endz p = true then 3 else 0
/-- what Unescape answers -/
def un (b : List Nat) : Option (List Nat) := if endz b = true then none else unF 0 b
def unR (b : List Nat) : List Nat := (un b).getD []
def unE (b : List Nat) : Int := if (un b).isSome then 0 else 3

/-- the reference's way: taken away and escaped again -/
theorem un_back (b : List Nat) : (endz (stF 0 b) = false ∧ esc (stF 0 b) = b) ↔ (un b).isSome = true := by
  constructor
  · rintro ⟨h1, h2⟩
    have e := un_esc (stF 0 b) 0 (by omega)
    have e2 : unF 0 b = some (stF 0 b) := by
      have h3 : escF 0 (stF 0 b) = b := h2
      rwa [h3] at e
    have e3 : endz b = false := by
      have := endz_esc (stF 0 b) 0
      rw [show escF 0 (stF 0 b) = b from h2, h1] at this
      exact this
    unfold un
    rw [if_neg (by rw [e3]; simp), e2]
    rfl
  · intro h
    unfold un at h
    by_cases hz : endz b = true
    · rw [if_pos hz] at h; cases h
    · rw [if_neg hz] at h
      obtain ⟨p, hp⟩ := Option.isSome_iff_exists.1 h
      have e := st_un b 0 p (by omega) hp
      have e2 := esc_un b 0 p (by omega) hp
      rw [e]
      refine ⟨?_, e2⟩
      have := endz_esc p 0
      rw [e2] at this
      rw [← this]
      simpa using hz
theorem un_st (b : List Nat) (h : (un b).isSome = true) : unR b = stF 0 b := by
  unfold unR
  unfold un at h ⊢
  by_cases hz : endz b = true
  · rw [if_pos hz] at h; cases h
  · rw [if_neg hz] at h ⊢
    obtain ⟨p, hp⟩ := Option.isSome_iff_exists.1 h
    rw [hp, st_un b 0 p (by omega) hp]
    rfl
theorem un_none (b : List Nat) (h : ¬ (un b).isSome = true) : unR b = [] := by
  unfold unR
  cases hu : un b with
  | none => rfl
  | some p => rw [hu] at h; simp at h
theorem un_of_esc (p : List Nat) (h : endz p = false) : un (esc p) = some p := by
  unfold un
  have e := endz_esc p 0
  rw [show escF 0 p = esc p from rfl, h] at e
  rw [if_neg (by rw [e]; simp)]
  exact un_esc p 0 (by omega)
theorem esc_of_un (b p : List Nat) (h : un b = some p) : esc p = b ∧ endz p = false := by
  unfold un at h
  by_cases hz : endz b = true
  · rw [if_pos hz] at h; cases h
  · rw [if_neg hz] at h
    have e2 := esc_un b 0 p (by omega) h
    refine ⟨e2, ?_⟩
    have := endz_esc p 0
    rw [e2] at this
    rw [← this]
    simpa using hz

/-- the zeros at the end of what was written -/
def zs (o : List Nat) : Nat := o.foldl zz 0
theorem zs_snoc (o : List Nat) (c : Nat) : zs (o ++ [c]) = zz (zs o) c := by simp [zs, List.foldl_append]
theorem zs_two (o : List Nat) : 2 ≤ zs o ↔ (2 ≤ o.length ∧ o.getD (o.length - 1) 0 = 0 ∧ o.getD (o.length - 2) 0 = 0) := by
  rcases List.eq_nil_or_concat o with rfl | ⟨q, c, rfl⟩
  · simp [zs]
  · rcases List.eq_nil_or_concat q with rfl | ⟨q, d, rfl⟩
    · simp [zs, zz]; split <;> omega
    · rw [List.concat_eq_append, List.concat_eq_append, zs_snoc, zs_snoc]
      have h1 : (q ++ [d] ++ [c]).getD ((q ++ [d] ++ [c]).length - 1) 0 = c := by simp
      have h2 : (q ++ [d] ++ [c]).getD ((q ++ [d] ++ [c]).length - 2) 0 = d := by simp
      rw [h1, h2]
      have h3 : 2 ≤ (q ++ [d] ++ [c]).length := by simp
      unfold zz
      constructor
      · intro h
        refine ⟨h3, ?_⟩
        split at h
        · split at h <;> omega
        · omega
      · rintro ⟨_, rfl, rfl⟩
        simp
end SM
end Go.Proofs.YtpkjogjdacogeaaDoor
