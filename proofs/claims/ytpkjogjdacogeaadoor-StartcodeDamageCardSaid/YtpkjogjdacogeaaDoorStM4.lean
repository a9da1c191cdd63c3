/- Plain mathematics: units joined one after the other, and found again. -/
import Derived.Test.YtpkjogjdacogeaaDoorStM3
namespace Go.Proofs.YtpkjogjdacogeaaDoor
namespace SM
set_option linter.unusedVariables false
set_option linter.unusedSimpArgs false

/-- the bytes of units, each behind some bytes 0 -/
def flat (zs : List (Nat × Int × List Nat)) : List Nat := zs.flatMap fun z => List.replicate z.1 0 ++ one z.2
theorem flat_cons (z : Nat × Int × List Nat) (r : List (Nat × Int × List Nat)) : flat (z :: r) = List.replicate z.1 0 ++ (one z.2 ++ flat r) := by simp [flat]
theorem flat_app (a b : List (Nat × Int × List Nat)) : flat (a ++ b) = flat a ++ flat b := by simp [flat]
/-- where the units are, from an index on; 'next' is not known yet -/
def want0 : Nat → List (Nat × Int × List Nat) → List Hit
  | _, [] => []
  | off, z :: r => ⟨z.2.1, z.2.2, off + z.1, off + z.1 + (one z.2).length, 0⟩ :: want0 (off + z.1 + (one z.2).length) r
theorem want0_length (zs : List (Nat × Int × List Nat)) : ∀ off, (want0 off zs).length = zs.length := by
  induction zs with
  | nil => intro off; rfl
  | cons z r ih => intro off; simp [want0, ih]
theorem want0_app (a b : List (Nat × Int × List Nat)) : ∀ off, want0 off (a ++ b) = want0 off a ++ want0 (off + (flat a).length) b := by
  induction a with
  | nil => intro off; simp [want0, flat]
  | cons z r ih =>
    intro off
    show want0 off (z :: (r ++ b)) = _
    rw [want0, ih, want0, flat_cons]
    simp only [List.cons_append, List.length_append, List.length_replicate]
    congr 3
    omega
/-- the padding before the first of them, or what is left -/
def padH : List (Nat × Int × List Nat) → Nat
  | [] => 0
  | z :: _ => z.1
/-- where the units are -/
def want : Nat → List (Nat × Int × List Nat) → List Hit
  | _, [] => []
  | off, z :: r => ⟨z.2.1, z.2.2, off + z.1, off + z.1 + (one z.2).length, off + z.1 + (one z.2).length + padH r⟩ :: want (off + z.1 + (one z.2).length) r
theorem want_length (zs : List (Nat × Int × List Nat)) : ∀ off, (want off zs).length = zs.length := by
  induction zs with
  | nil => intro off; rfl
  | cons z r ih => intro off; simp [want, ih]
/-- element k of both, and what comes next -/
theorem want_get (zs : List (Nat × Int × List Nat)) : ∀ off k, k < zs.length → ∃ h, (want0 off zs)[k]? = some h ∧ (want off zs)[k]? = some { h with x := ((want0 off zs)[k + 1]?.map (·.f)).getD (off + (flat zs).length) } := by
  induction zs with
  | nil => intro off k hk; simp at hk
  | cons z r ih =>
    intro off k hk
    cases k with
    | zero =>
      refine ⟨_, rfl, ?_⟩
      cases r with
      | nil => simp [want, want0, padH, flat_cons, flat]; omega
      | cons y q => simp [want, want0, padH]
    | succ k =>
      obtain ⟨h, h1, h2⟩ := ih (off + z.1 + (one z.2).length) k (by simp at hk; omega)
      refine ⟨h, by simpa [want0] using h1, ?_⟩
      have e : off + z.1 + (one z.2).length + (flat r).length = off + (flat (z :: r)).length := by
        rw [flat_cons]; simp; omega
      rw [e] at h2
      simpa [want, want0] using h2

theorem one_code (q : Int × List Nat) (h : Fmd q) (r : List Nat) : codeH (one q ++ r) = true := by
  have := h.2.1
  simp [one, codeH]
  omega
theorem getD_app_left (a b : List Nat) (i : Nat) (h : i < a.length) : (a ++ b).getD i 0 = a.getD i 0 := by
  simp [List.getD, List.getElem?_append_left h]
theorem no_code (p : List Nat) (k : Nat) (i : Nat) : codeH ((esc p ++ List.replicate k 0).drop i) = false := by
  rw [← Bool.not_eq_true, codeH_at]
  intro h
  simp only [Bool.and_eq_true, decide_eq_true_eq, beq_iff_eq, Bool.not_eq_true', beq_eq_false_iff_ne] at h
  obtain ⟨h4, ⟨⟨h0, h1⟩, h2⟩, h3⟩ := h
  have g : ∀ j, ((esc p ++ List.replicate k 0).drop i).getD j 0 = (esc p ++ List.replicate k 0).getD (i + j) 0 := by intro j; simp [List.getD]
  rw [g] at h0 h1 h2
  have hlt : i + 2 < (esc p).length := by
    rcases Nat.lt_or_ge (i + 2) (esc p).length with h5 | h5
    · exact h5
    · exfalso
      have : (esc p ++ List.replicate k 0).getD (i + 2) 0 = 0 := by
        simp only [List.getD, List.getElem?_append_right h5, List.getElem?_replicate]
        split <;> rfl
      omega
  rw [getD_app_left _ _ _ (by omega)] at h0 h1 h2
  exact esc_clean p i hlt ⟨h0, h1, by omega⟩
theorem endz_of_fmd (q : Int × List Nat) (h : Fmd q) : endz (esc q.2) = false := by
  have := endz_esc q.2 0
  rw [h.2.2] at this
  exact this

/-- one unit, some bytes 0, and then a start code or the end -/
theorem its_one (q : Int × List Nat) (h : Fmd q) (k : Nat) (g : List Nat) (off : Nat) (hg : g = [] ∨ codeH g = true) :
    its (one q ++ (List.replicate k 0 ++ g)) off = ⟨q.1, esc q.2, off, off + (one q).length, off + (one q).length + k⟩ :: its g (off + (one q).length + k) := by
  rw [← List.append_assoc, its_app _ (one q ++ List.replicate k 0) g off (Nat.le_refl _) (.inr (by simp [one])) hg]
  have hn : nxL (esc q.2 ++ List.replicate k 0) = (esc q.2 ++ List.replicate k 0).length := nxL_none _ (no_code q.2 k)
  have e : its (one q ++ List.replicate k 0) off = [⟨q.1, esc q.2, off, off + (one q).length, off + (one q).length + k⟩] := by
    show its (0 :: 0 :: 1 :: q.1.toNat :: (esc q.2 ++ List.replicate k 0)) off = _
    have ht := h.2.1
    rw [its_cons, hn, List.take_length, List.drop_length, bl_zeros, bl_full _ (endz_of_fmd q h), its_nil]
    have e1 : (esc q.2 ++ List.replicate k 0).take (esc q.2).length = esc q.2 := by simp
    rw [e1]
    congr 2
    · omega
    · rw [length_one]; omega
    · rw [length_one]; simp; omega
  rw [e]
  simp only [List.cons_append, List.nil_append, List.length_append, List.length_replicate]
  congr 2
  omega

theorem hit_one (q : Int × List Nat) (h : Fmd q) (f o x : Nat) : hitOf ⟨q.1, esc q.2, f, o, x⟩ = some ⟨q.1, q.2, f, o, x⟩ := by
  unfold hitOf
  rw [un_of_esc q.2 h.2.2]
  rfl
theorem def_one (q : Int × List Nat) (h : Fmd q) (f o x : Nat) : defOf ⟨q.1, esc q.2, f, o, x⟩ = none := by
  unfold defOf
  rw [un_of_esc q.2 h.2.2]
  rfl

/-- behind a unit: units joined -/
theorem its_units (zs : List (Nat × Int × List Nat)) : ∀ (q : Int × List Nat) off, Fmd q → (∀ z ∈ zs, Fmd z.2) →
    hits (its (one q ++ flat zs) off) = want off ((0, q) :: zs) ∧ defs (its (one q ++ flat zs) off) = [] := by
  induction zs with
  | nil =>
    intro q off hq _
    have e := its_one q hq 0 [] off (.inl rfl)
    simp only [List.replicate_zero, List.nil_append, List.append_nil] at e
    rw [show flat [] = [] from rfl, List.append_nil, e, its_nil]
    simp [hits, defs, hit_one q hq, def_one q hq, want, padH]
  | cons z r ih =>
    intro q off hq hall
    have hz := hall z (by simp)
    obtain ⟨i1, i2⟩ := ih z.2 (off + (one q).length + z.1) hz (fun y hy => hall y (by simp [hy]))
    rw [flat_cons, its_one q hq z.1 _ off (.inr (one_code z.2 hz _))]
    constructor
    · show List.filterMap hitOf _ = _
      rw [List.filterMap_cons_some (hit_one q hq _ _ _)]
      show _ :: hits _ = _
      rw [i1]
      simp [want, padH, Nat.add_assoc]
    · show List.filterMap defOf _ = _
      rw [List.filterMap_cons_none (def_one q hq _ _ _)]
      exact i2

theorem codeH_zeros (n : Nat) (r : List Nat) (q : Int × List Nat) (hq : Fmd q) : nxL (List.replicate n 0 ++ (one q ++ r)) = n := by
  rw [nxL_app _ _ (one_code q hq r)]
  rw [nxL_none]
  · simp
  · intro i
    rw [← Bool.not_eq_true, codeH_at]
    intro h
    simp only [Bool.and_eq_true, decide_eq_true_eq, beq_iff_eq, Bool.not_eq_true', beq_eq_false_iff_ne] at h
    obtain ⟨h4, ⟨⟨h0, h1⟩, h2⟩, h3⟩ := h
    rw [List.drop_replicate] at h2
    simp [List.getD, List.getElem?_replicate] at h2
    split at h2 <;> simp at h2
/-- all units are found, and nothing else -/
theorem back (zs : List (Nat × Int × List Nat)) (hall : ∀ z ∈ zs, Fmd z.2) : units (flat zs) = want 0 zs ∧ bads (flat zs) = [] := by
  cases zs with
  | nil => exact ⟨rfl, rfl⟩
  | cons z r =>
    have hz := hall z (by simp)
    obtain ⟨h1, h2⟩ := its_units r z.2 z.1 hz (fun y hy => hall y (by simp [hy]))
    have hn := codeH_zeros z.1 (flat r) z.2 hz
    have hd : (flat (z :: r)).drop (nxL (flat (z :: r))) = one z.2 ++ flat r := by
      rw [flat_cons, hn]; simp
    have ht : (flat (z :: r)).take (nxL (flat (z :: r))) = List.replicate z.1 0 := by
      rw [flat_cons, hn]; simp
    have hn' : nxL (flat (z :: r)) = z.1 := by rw [flat_cons, hn]
    constructor
    · unfold units
      rw [hd, hn', h1]
      simp [want]
    · unfold bads
      rw [ht, hd, hn', h2]
      have e : bl (List.replicate z.1 0) = 0 := (bl_zero_iff _).2 (fun x hx => (List.mem_replicate.1 hx).2)
      rw [e]
      rfl

theorem flat_code (zs : List (Nat × Int × List Nat)) (hall : ∀ z ∈ zs, Fmd z.2 ∧ z.1 = 0) (hne : zs ≠ []) : codeH (flat zs) = true := by
  cases zs with
  | nil => exact absurd rfl hne
  | cons z r =>
    obtain ⟨hz, h0⟩ := hall z (by simp)
    rw [flat_cons, h0]
    exact one_code z.2 hz _
theorem its_flat (zs : List (Nat × Int × List Nat)) (hall : ∀ z ∈ zs, Fmd z.2 ∧ z.1 = 0) (off : Nat) : hits (its (flat zs) off) = want off zs := by
  cases zs with
  | nil => rfl
  | cons z r =>
    obtain ⟨hz, h0⟩ := hall z (by simp)
    obtain ⟨h1, _⟩ := its_units r z.2 off hz (fun y hy => (hall y (by simp [hy])).1)
    obtain ⟨n, q⟩ := z
    simp only at h0
    subst h0
    rw [flat_cons]
    exact h1
/-- whatever stands before them: the last ones are the units -/
theorem resync (x : List Nat) (zs : List (Nat × Int × List Nat)) (hall : ∀ z ∈ zs, Fmd z.2 ∧ z.1 = 0) (hne : zs ≠ []) : units (x ++ flat zs) = units x ++ want x.length zs := by
  rw [units_app x _ (flat_code zs hall hne), its_flat zs hall]
def shift (d : Nat) (h : Hit) : Hit := { h with f := h.f + d, o := h.o + d, x := h.x + d }
theorem want_shift (d : Nat) (zs : List (Nat × Int × List Nat)) : ∀ off, want (off + d) zs = (want off zs).map (shift d) := by
  induction zs with
  | nil => intro off; rfl
  | cons z r ih =>
    intro off
    have e := ih (off + z.1 + (one z.2).length)
    simp only [want, List.map_cons, shift]
    rw [← e]
    have h1 : off + d + z.1 = off + z.1 + d := by omega
    have h2 : off + d + z.1 + (one z.2).length = off + z.1 + (one z.2).length + d := by omega
    have h3 : off + d + z.1 + (one z.2).length + padH r = off + z.1 + (one z.2).length + padH r + d := by omega
    rw [h3, h2, h1]
theorem want_app (a b : List (Nat × Int × List Nat)) (hb : padH b = 0) : ∀ off, want off (a ++ b) = want off a ++ want (off + (flat a).length) b := by
  induction a with
  | nil => intro off; simp [want, flat]
  | cons z r ih =>
    intro off
    show want off (z :: (r ++ b)) = _
    rw [want, ih, want, flat_cons]
    have hp : padH (r ++ b) = padH r := by cases r with
      | nil => simpa [padH] using hb
      | cons y q => rfl
    rw [hp]
    simp only [List.cons_append, List.length_append, List.length_replicate]
    congr 3
    omega
/-- one unit's body is changed: all the others are found -/
theorem damage (a b : List (Nat × Int × List Nat)) (q : Int × List Nat) (body : List Nat) (hl : body.length = (esc q.2).length) (hq : Fmd q)
    (ha : ∀ z ∈ a, Fmd z.2 ∧ z.1 = 0) (hb : ∀ z ∈ b, Fmd z.2 ∧ z.1 = 0) :
    ∀ i, i ≠ a.length → ∀ h, (want 0 (a ++ (0, q) :: b))[i]? = some h → h ∈ units (flat a ++ (0 :: 0 :: 1 :: q.1.toNat :: body ++ flat b)) := by
  intro i hi h hh
  have hqt := hq.2.1
  have hpad : padH b = 0 := by
    cases b with
    | nil => rfl
    | cons y r => exact (hb y (by simp)).2
  rw [want_app a ((0, q) :: b) rfl 0, Nat.zero_add] at hh
  have hcode : codeH (0 :: 0 :: 1 :: q.1.toNat :: body ++ flat b) = true := by
    simp [codeH]; omega
  have hfa : hits (its (flat a) 0) = want 0 a := its_flat a ha 0
  have hua : units (flat a) = want 0 a := (back a (fun z hz => (ha z hz).1)).1
  rw [units_app _ _ hcode, hua]
  rcases Nat.lt_or_ge i a.length with hlt | hge
  · rw [List.getElem?_append_left (by rw [want_length]; exact hlt)] at hh
    exact List.mem_append_left _ (List.mem_of_getElem? hh)
  · rw [List.getElem?_append_right (by rw [want_length]; omega), want_length] at hh
    obtain ⟨j, hj⟩ : ∃ j, i - a.length = j + 1 := ⟨i - a.length - 1, by omega⟩
    rw [hj] at hh
    simp only [want, List.getElem?_cons_succ] at hh
    refine List.mem_append_right _ ?_
    have hne : b ≠ [] := by
      intro e
      subst e
      simp [want] at hh
    rw [its_app _ (0 :: 0 :: 1 :: q.1.toNat :: body) (flat b) _ (Nat.le_refl _) (.inr (by simp)) (.inr (flat_code b hb hne)), hits_app, its_flat b hb]
    refine List.mem_append_right _ ?_
    have e : (flat a).length + (0 :: 0 :: 1 :: q.1.toNat :: body).length = (flat a).length + 0 + (one q).length := by
      rw [length_one]; simp [hl]; omega
    rw [e]
    exact List.mem_of_getElem? hh
end SM
end Go.Proofs.YtpkjogjdacogeaaDoor
