/- Plain mathematics: start codes, regions, what Split finds. -/
import Derived.Test.YtpkjogjdacogeaaDoorStM2
namespace Go.Proofs.YtpkjogjdacogeaaDoor
namespace SM
set_option linter.unusedVariables false
set_option linter.unusedSimpArgs false

/-- a start code stands at the head -/
def codeH : List Nat → Bool
  | a :: b :: c :: t :: _ => a == 0 && b == 0 && c == 1 && !(t == 0)
  | _ => false
/-- the index of the first start code, or the length -/
def nxL : List Nat → Nat
  | [] => 0
  | c :: r => if codeH (c :: r) = true then 0 else nxL r + 1
theorem nxL_le (l : List Nat) : nxL l ≤ l.length := by
  induction l with
  | nil => simp [nxL]
  | cons c r ih => unfold nxL; split <;> simp <;> omega
theorem codeH_short (l : List Nat) (h : l.length < 4) : codeH l = false := by
  match l, h with
  | [], _ => rfl
  | [_], _ => rfl
  | [_, _], _ => rfl
  | [_, _, _], _ => rfl
theorem codeH_long (l : List Nat) (h : codeH l = true) : 4 ≤ l.length := by
  rcases Nat.lt_or_ge l.length 4 with h4 | h4
  · rw [codeH_short l h4] at h; cases h
  · exact h4
theorem nxL_short (l : List Nat) (h : l.length < 4) : nxL l = l.length := by
  induction l with
  | nil => rfl
  | cons c r ih =>
    unfold nxL
    rw [codeH_short _ h, if_neg (by simp), ih (by simp at h; omega)]
    rfl
theorem codeH_at (l : List Nat) : codeH l = (decide (4 ≤ l.length) && (l.getD 0 0 == 0 && l.getD 1 0 == 0 && l.getD 2 0 == 1 && !(l.getD 3 0 == 0))) := by
  match l with
  | [] => rfl
  | [_] => rfl
  | [_, _] => rfl
  | [_, _, _] => rfl
  | a :: b :: c :: t :: r => simp [codeH]
theorem codeH_app (x g : List Nat) (h : 4 ≤ x.length) : codeH (x ++ g) = codeH x := by
  match x, h with
  | a :: b :: c :: t :: r, _ => rfl
/-- a start code at the head of g: none goes across -/
theorem codeH_cross (x g : List Nat) (hg : codeH g = true) (hx : x ≠ []) (h : x.length < 4) : codeH (x ++ g) = false := by
  match g, hg with
  | a :: b :: c :: t :: r, hg =>
    simp only [codeH, Bool.and_eq_true, beq_iff_eq, Bool.not_eq_true', beq_eq_false_iff_ne] at hg
    obtain ⟨⟨⟨rfl, rfl⟩, rfl⟩, ht⟩ := hg
    match x, hx, h with
    | [x0], _, _ => simp [codeH]
    | [x0, x1], _, _ => simp [codeH]
    | [x0, x1, x2], _, _ => simp [codeH]
theorem nxL_app (x g : List Nat) (hg : codeH g = true) : nxL (x ++ g) = nxL x := by
  induction x with
  | nil =>
    have := codeH_long g hg
    match g, hg with
    | a :: r, hg => show nxL (a :: r) = 0; unfold nxL; rw [if_pos hg]
  | cons c r ih =>
    show nxL (c :: (r ++ g)) = nxL (c :: r)
    unfold nxL
    have e : codeH (c :: (r ++ g)) = codeH (c :: r) := by
      rcases Nat.lt_or_ge (c :: r).length 4 with h | h
      · rw [codeH_short _ h]; exact codeH_cross (c :: r) g hg (by simp) h
      · exact codeH_app (c :: r) g h
    rw [e, ih]
theorem nxL_drop (l : List Nat) : l.drop (nxL l) = [] ∨ codeH (l.drop (nxL l)) = true := by
  induction l with
  | nil => exact .inl rfl
  | cons c r ih =>
    unfold nxL
    by_cases h : codeH (c :: r) = true
    · rw [if_pos h]; exact .inr h
    · rw [if_neg h]; simpa using ih
theorem nxL_none (l : List Nat) (h : ∀ i, codeH (l.drop i) = false) : nxL l = l.length := by
  induction l with
  | nil => rfl
  | cons c r ih =>
    unfold nxL
    have h0 := h 0
    simp only [List.drop_zero] at h0
    rw [h0, if_neg (by simp), ih (fun i => by have := h (i + 1); simpa using this)]
    rfl

/-- the length without the bytes 0 at the end -/
def bl : List Nat → Nat
  | [] => 0
  | c :: r => if bl r = 0 then (if c = 0 then 0 else 1) else bl r + 1
theorem bl_le (l : List Nat) : bl l ≤ l.length := by
  induction l with
  | nil => simp [bl]
  | cons c r ih => unfold bl; split <;> (try split) <;> simp <;> omega
theorem bl_snoc (l : List Nat) (c : Nat) : bl (l ++ [c]) = if c = 0 then bl l else l.length + 1 := by
  induction l with
  | nil => simp [bl]
  | cons d r ih =>
    show bl (d :: (r ++ [c])) = _
    unfold bl
    rw [ih]
    by_cases hc : c = 0
    · simp [hc]
    · simp [hc]
theorem bl_full (l : List Nat) (h : endz l = false) : bl l = l.length := by
  rcases List.eq_nil_or_concat l with rfl | ⟨q, c, rfl⟩
  · rfl
  · rw [List.concat_eq_append] at h ⊢
    rw [endz_snoc] at h
    rw [bl_snoc, if_neg (by intro e; subst e; simp at h)]
    simp
theorem bl_zeros (l : List Nat) (k : Nat) : bl (l ++ List.replicate k 0) = bl l := by
  induction k with
  | zero => simp
  | succ k ih =>
    rw [List.replicate_succ', ← List.append_assoc, bl_snoc, if_pos rfl, ih]
theorem bl_zero_iff (l : List Nat) : bl l = 0 ↔ ∀ x ∈ l, x = 0 := by
  induction l with
  | nil => simp [bl]
  | cons c r ih =>
    unfold bl
    by_cases h : bl r = 0
    · rw [if_pos h]
      have := ih.1 h
      by_cases hc : c = 0
      · simp [hc]; exact this
      · simp [hc]
    · rw [if_neg h]
      constructor
      · intro h2; omega
      · intro h2; exact absurd (ih.2 (fun x hx => h2 x (by simp [hx]))) h

/-- a start code, its type, its body, where it begins, where the body ends, where the region ends -/
structure Item where
  t : Int
  body : List Nat
  f : Nat
  o : Nat
  x : Nat
/-- a unit that was found -/
structure Hit where
  t : Int
  p : List Nat
  f : Nat
  o : Nat
  x : Nat

def items : Nat → List Nat → Nat → List Item
  | n + 1, _ :: _ :: _ :: t :: r, off =>
    ⟨t, (r.take (nxL r)).take (bl (r.take (nxL r))), off, off + 4 + bl (r.take (nxL r)), off + 4 + nxL r⟩ :: items n (r.drop (nxL r)) (off + 4 + nxL r)
  | _, _, _ => []
theorem items_fuel : ∀ n m l off, l.length ≤ n → l.length ≤ m → items n l off = items m l off := by
  intro n
  induction n with
  | zero =>
    intro m l off h1 h2
    obtain rfl := List.eq_nil_of_length_eq_zero (by omega : l.length = 0)
    cases m <;> rfl
  | succ n ih =>
    intro m l off h1 h2
    match l, m with
    | [], m => cases m <;> rfl
    | [_], m => cases m <;> rfl
    | [_, _], m => cases m <;> rfl
    | [_, _, _], m => cases m <;> rfl
    | a :: b :: c :: t :: r, 0 => simp at h2
    | a :: b :: c :: t :: r, m + 1 =>
      unfold items
      rw [ih m]
      · simp at h1 ⊢; omega
      · simp at h2 ⊢; omega
def its (l : List Nat) (off : Nat) : List Item := items l.length l off
theorem its_nil (off : Nat) : its [] off = [] := rfl
theorem its_cons (a b c t : Nat) (r : List Nat) (off : Nat) : its (a :: b :: c :: t :: r) off =
    ⟨t, (r.take (nxL r)).take (bl (r.take (nxL r))), off, off + 4 + bl (r.take (nxL r)), off + 4 + nxL r⟩ :: its (r.drop (nxL r)) (off + 4 + nxL r) := by
  show items (r.length + 1 + 1 + 1 + 1) (a :: b :: c :: t :: r) off = _
  unfold items
  rw [items_fuel (r.length + 1 + 1 + 1) (r.drop (nxL r)).length _ _ (by simp; omega) (Nat.le_refl _)]
  rfl

def hitOf (i : Item) : Option Hit := (un i.body).map fun p => ⟨i.t, p, i.f, i.o, i.x⟩
def defOf (i : Item) : Option (Nat × Nat) := if (un i.body).isSome then none else some (i.f, i.o)
def hits (l : List Item) : List Hit := l.filterMap hitOf
def defs (l : List Item) : List (Nat × Nat) := l.filterMap defOf
/-- what Split answers -/
def units (b : List Nat) : List Hit := hits (its (b.drop (nxL b)) (nxL b))
def bads (b : List Nat) : List (Nat × Nat) := (if 0 < bl (b.take (nxL b)) then [(0, nxL b)] else []) ++ defs (its (b.drop (nxL b)) (nxL b))

theorem its_app : ∀ n (x : List Nat) (g : List Nat) off, x.length ≤ n → (x = [] ∨ 4 ≤ x.length) → (g = [] ∨ codeH g = true) → its (x ++ g) off = its x off ++ its g (off + x.length) := by
  intro n
  induction n with
  | zero =>
    intro x g off h1 h2 h3
    obtain rfl := List.eq_nil_of_length_eq_zero (by omega : x.length = 0)
    simp [its_nil]
  | succ n ih =>
    intro x g off h1 h2 h3
    rcases h3 with rfl | h3
    · simp [its_nil]
    match x, h2 with
    | [], _ => simp [its_nil]
    | a :: b :: c :: t :: r, _ =>
      have e1 := nxL_app r g h3
      have hle := nxL_le r
      show its (a :: b :: c :: t :: (r ++ g)) off = _
      rw [its_cons, its_cons, e1, List.take_append_of_le_length hle, List.drop_append_of_le_length hle]
      have h4 : r.drop (nxL r) = [] ∨ 4 ≤ (r.drop (nxL r)).length := (nxL_drop r).imp_right (codeH_long _)
      rw [ih (r.drop (nxL r)) g _ (by simp at h1 ⊢; omega) h4 (.inr h3), List.cons_append]
      congr 3
      simp
      omega
theorem hits_app (l m : List Item) : hits (l ++ m) = hits l ++ hits m := by simp [hits]
theorem defs_app (l m : List Item) : defs (l ++ m) = defs l ++ defs m := by simp [defs]

/-- whatever stands before a start code -/
theorem units_app (x g : List Nat) (hg : codeH g = true) : units (x ++ g) = units x ++ hits (its g x.length) := by
  have hle := nxL_le x
  unfold units
  rw [nxL_app x g hg, List.drop_append_of_le_length hle,
    its_app _ (x.drop (nxL x)) g _ (Nat.le_refl _) ((nxL_drop x).imp_right (codeH_long _)) (.inr hg), hits_app]
  congr 3
  simp; omega
theorem bads_app (x g : List Nat) (hg : codeH g = true) : bads (x ++ g) = bads x ++ defs (its g x.length) := by
  have hle := nxL_le x
  unfold bads
  rw [nxL_app x g hg, List.drop_append_of_le_length hle, List.take_append_of_le_length hle,
    its_app _ (x.drop (nxL x)) g _ (Nat.le_refl _) ((nxL_drop x).imp_right (codeH_long _)) (.inr hg), defs_app, List.append_assoc]
  congr 4
  simp; omega
end SM
end Go.Proofs.YtpkjogjdacogeaaDoor
