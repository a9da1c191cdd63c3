/- The law of such a region. Imports nothing of the program. -/
import Derived.Test.YtkecdfhpoeknkaaGrow
namespace Go.Proofs.Ytkecdfhpoeknkaa
set_option linter.unusedVariables false
set_option linter.unusedSimpArgs false
open Go.RowKit

/-- what one operation of the head leaves in the world u -/
def growUpon (P : Program) (u : World) (v : Value) : Result Next → Prop
  | .ok (.value x) w' => w' = u ∧ x = v
  | .ok .skip w' => w' = u ∧ v = undef
  | .ok (.enter g args) w' => w' = u ∧ Calls P g args u (fun e w'' => e = .returned v ∧ Below u.heap.size u w'')
  | _ => False
def growAt (P : Program) (o : Oper) (a : Act) (u : World) (v : Value) : Prop := growUpon P u v ((execOp a.eval o).run P u)
/-- the walk of the head in the order of the text -/
def lexG (P : Program) (W : World) (ops : Array Oper) (Qv : Act → Prop) : List Oper → Act → Prop
  | [], a => Qv a
  | o :: rest, a => if (isMade o || (keptAt o).isSome) = true then lexG P W ops Qv rest (a.put o.dst undef)
    else if Region.wanted o (yielded ops a.tmps) = true then ∃ v, (∀ u, Below W.heap.size W u → growAt P o a u v) ∧ lexG P W ops Qv rest (a.put o.dst v) else lexG P W ops Qv rest (a.put o.dst undef)

section
variable {P : Program} {W : World} {ops : Array Oper}

theorem maskL_shift (ls : Nat → Bool) (f : Nat → Value) : ∀ (l : List Oper) (k : Nat) (a : Act), maskL ls f (k + 1) l a = maskL (fun m => ls (m + 1)) (fun m => f (m + 1)) k l a
  | [], _, _ => rfl
  | o :: l, k, a => by
    unfold maskL
    exact maskL_shift ls f l (k + 1) _
theorem maskL_none {f : Nat → Value} : ∀ (l : List Oper) (k : Nat) (a : Act), maskL (fun m => decide (m < 0)) f k l a = a
  | [], _, _ => rfl
  | o :: l, k, a => by
    unfold maskL
    simp only [Nat.not_lt_zero, decide_false, Bool.false_eq_true, if_false]
    exact maskL_none l (k + 1) a

/-- what the walk shows of operation o at place i, the values being f -/
def Shown (P : Program) (W : World) (ops : Array Oper) (f : Nat → Value) (o : Oper) (i : Nat) (a : Act) : Prop :=
  (Region.wanted o (yielded ops a.tmps) = true ∧ ∀ u, Below W.heap.size W u → growAt P o a u (f i)) ∨ (Region.wanted o (yielded ops a.tmps) = false ∧ f i = undef)

theorem lexG_vals {Qv : Act → Prop} : ∀ (l : List Oper) (a : Act), lexG P W ops Qv l a →
    ∃ f : Nat → Value, (∀ i o, l[i]? = some o → (isMade o || (keptAt o).isSome) = false → Shown P W ops f o i (maskL (fun m => decide (m < i)) f 0 l a)) ∧ Qv (maskL (fun _ => true) f 0 l a)
  | [], a, h => ⟨fun _ => undef, by simp, h⟩
  | o :: l, a, h => by
    have key : ∀ v, lexG P W ops Qv l (a.put o.dst v) → ((isMade o || (keptAt o).isSome) = false → Shown P W ops (fun _ => v) o 0 a) →
        ∃ f : Nat → Value, (∀ i o', (o :: l)[i]? = some o' → (isMade o' || (keptAt o').isSome) = false → Shown P W ops f o' i (maskL (fun m => decide (m < i)) f 0 (o :: l) a)) ∧ Qv (maskL (fun _ => true) f 0 (o :: l) a) := by
      intro v hl hs
      obtain ⟨f, h1, h2⟩ := lexG_vals l _ hl
      refine ⟨fun m => match m with | 0 => v | m + 1 => f m, ?_, ?_⟩
      · intro i o' ho hm
        match i, ho with
        | 0, ho =>
          simp at ho
          subst ho
          rw [maskL_none]
          exact hs hm
        | i + 1, ho =>
          have ho' : l[i]? = some o' := by simpa using ho
          unfold maskL
          rw [maskL_shift]
          simp only [Nat.zero_lt_succ, decide_true, if_true]
          have := h1 i o' ho' hm
          simp only [Nat.succ_lt_succ_iff] at this ⊢
          exact this
      · unfold maskL
        rw [maskL_shift]
        exact h2
    unfold lexG at h
    by_cases hm : (isMade o || (keptAt o).isSome) = true
    · rw [if_pos hm] at h
      exact key undef h (fun e => by rw [hm] at e; cases e)
    · rw [if_neg hm] at h
      by_cases hw : Region.wanted o (yielded ops a.tmps) = true
      · rw [if_pos hw] at h
        obtain ⟨v, hv, hl⟩ := h
        exact key v hl (fun _ => .inl ⟨hw, hv⟩)
      · rw [if_neg hw] at h
        exact key undef h (fun _ => .inr ⟨by simpa using hw, rfl⟩)

/-- how many of the first k have not come up -/
def unl (listed : Array Bool) : Nat → Nat
  | 0 => 0
  | k + 1 => unl listed k + (if listed.getD k false = true then 0 else 1)
theorem unl_set (listed : Array Bool) (i : Nat) (hi : i < listed.size) (h : listed.getD i false = false) : ∀ k, unl (listed.setIfInBounds i true) k + (if i < k then 1 else 0) = unl listed k
  | 0 => rfl
  | k + 1 => by
    have ih := unl_set listed i hi h k
    unfold unl
    by_cases e : i = k
    · subst e
      have e1 : (listed.setIfInBounds i true).getD i false = true := by simp [hi]
      simp only [e1, h, Nat.lt_irrefl, if_false, if_true, Nat.add_zero, Nat.lt_succ_self, Bool.false_eq_true] at ih ⊢
      omega
    · rw [getD_set_ne false e]
      have hp : (i < k + 1) ↔ (i < k) := by omega
      simp only [hp]
      omega
theorem unl_zero (listed : Array Bool) : ∀ k, unl listed k = 0 → ∀ i, i < k → listed.getD i false = true
  | 0, _, i, hi => absurd hi (Nat.not_lt_zero _)
  | k + 1, h, i, hi => by
    unfold unl at h
    by_cases e : i = k
    · subst e
      by_cases h2 : listed.getD i false = true
      · exact h2
      · rw [if_neg h2] at h; omega
    · exact unl_zero listed k (by omega) i (by omega)

theorem wpAny_more {md : Region.Mode} {Q : Exit → Act → World → Prop} : ∀ (fuel : Nat) (listed : Array Bool) (a : Act) (w : World), wpAny P md ops Q fuel listed a w → wpAny P md ops Q (fuel + 1) listed a w
  | 0, _, _, _, h => ⟨fun _ => h.2, fun i hi => (by rw [h.1] at hi; cases hi)⟩
  | fuel + 1, _, _, _, h => ⟨h.1, fun i hi => wpOp_mono (fun a' w' h' => wpAny_more fuel _ a' w' h') (h.2 i hi)⟩
theorem wpAny_plus {md : Region.Mode} {Q : Exit → Act → World → Prop} (k : Nat) {fuel : Nat} {listed : Array Bool} {a : Act} {w : World} (h : wpAny P md ops Q fuel listed a w) : wpAny P md ops Q (k + fuel) listed a w := by
  induction k with
  | zero => simpa using h
  | succ k ih => rw [show k + 1 + fuel = k + fuel + 1 by omega]; exact wpAny_more _ _ _ _ ih
end

/-- what can be asked of the text of the region -/
def headB (md : Region.Mode) (l : List Oper) (n : Nat) (T : TypeId) : Bool :=
  decide (n ≤ l.length) && Region.noSelect l.toArray &&
  ((List.range n).all fun i => match l[i]? with
    | none => false
    | some o =>
      (o.after.all fun e => !Region.binds md e || decide (e.on < i)) &&
      ((keptAt o).isSome || (o.looksAt l.toArray).all fun d => (List.range l.length).all fun j => match l[j]? with
        | some oj => oj.dst != some d || (decide (j < n) && Region.waitsFor md l.toArray i j && !isMade oj)
        | none => true) &&
      ((List.range n).all fun j => i == j || match l[j]? with
        | some oj => o.dst.isNone || oj.dst != o.dst
        | none => true) &&
      (match o.op with | .alloc t => t == T && o.guard.isNone && o.dst.isSome | _ => true) &&
      (match keptAt o with
        | some (p, q) => o.op matches .store .. && o.guard.isNone && o.dst.isNone &&
          ((List.range n).any fun j => match l[j]? with | some oj => isMade oj && oj.dst == some p && Region.waitsFor md l.toArray i j | none => false) &&
          ((List.range n).any fun j => match l[j]? with | some oj => !isMade oj && oj.dst == some q && Region.waitsFor md l.toArray i j | none => false) &&
          ((List.range n).all fun j => i == j || match l[j]? with | some oj => (match keptAt oj with | some (p', _) => p' != p | none => true) | none => true)
        | none => true)) &&
  ((List.range l.length).all fun t => decide (t < n) || (List.range n).all fun i => Region.waitsFor md l.toArray t i)

structure HeadOk (md : Region.Mode) (l : List Oper) (n : Nat) (T : TypeId) : Prop where
  le : n ≤ l.length
  sel : Region.noSelect l.toArray = true
  down : ∀ i o, i < n → l[i]? = some o → ∀ e ∈ o.after, Region.binds md e = true → e.on < i
  looks : ∀ i o, i < n → l[i]? = some o → keptAt o = none → ∀ d ∈ o.looksAt l.toArray, ∀ j oj, l[j]? = some oj → oj.dst = some d → j < n ∧ Region.waitsFor md l.toArray i j = true ∧ isMade oj = false
  dsts : ∀ i o, i < n → l[i]? = some o → ∀ j oj, j < n → l[j]? = some oj → j ≠ i → ∀ d, o.dst = some d → oj.dst ≠ some d
  made : ∀ i o, i < n → l[i]? = some o → isMade o = true → o.op = .alloc T ∧ o.guard = none ∧ ∃ d, o.dst = some d
  kept : ∀ i o p q, i < n → l[i]? = some o → keptAt o = some (p, q) → o.guard = none ∧ o.dst = none ∧
    (∃ j oj, j < n ∧ l[j]? = some oj ∧ isMade oj = true ∧ oj.dst = some p ∧ Region.waitsFor md l.toArray i j = true) ∧
    (∃ j oj, j < n ∧ l[j]? = some oj ∧ isMade oj = false ∧ oj.dst = some q ∧ Region.waitsFor md l.toArray i j = true) ∧
    (∀ j oj p' q', j < n → l[j]? = some oj → j ≠ i → keptAt oj = some (p', q') → p' ≠ p)
  tail : ∀ t, n ≤ t → t < l.length → ∀ i, i < n → Region.waitsFor md l.toArray t i = true

theorem headB_ok {md : Region.Mode} {l : List Oper} {n : Nat} {T : TypeId} (h : headB md l n T = true) : HeadOk md l n T := by
  simp only [headB, Bool.and_eq_true, decide_eq_true_eq, List.all_eq_true, List.mem_range] at h
  obtain ⟨⟨⟨h1, h2⟩, h3⟩, h4⟩ := h
  have key : ∀ i o, i < n → l[i]? = some o → _ := fun i o hi ho => by
    have := h3 i hi
    rw [ho] at this
    exact this
  simp only [Bool.and_eq_true, List.all_eq_true, List.mem_range, Array.all_eq_true_iff_forall_mem, Bool.or_eq_true, Bool.not_eq_true', decide_eq_true_eq, beq_iff_eq] at key
  refine ⟨h1, h2, ?_, ?_, ?_, ?_, ?_, ?_⟩
  · intro i o hi ho e he hb
    rcases (key i o hi ho).1.1.1.1 e he with h | h
    · rw [hb] at h; cases h
    · exact h
  · intro i o hi ho hk d hd j oj hj hdst
    have hjl : j < l.length := (List.getElem?_eq_some_iff.1 hj).1
    have := (key i o hi ho).1.1.1.2
    rw [hk] at this
    simp only [Option.isSome_none, Bool.false_eq_true, false_or] at this
    have := this d hd j hjl
    rw [hj] at this
    simp only [Bool.or_eq_true, bne_iff_ne, Bool.and_eq_true, decide_eq_true_eq, Bool.not_eq_true'] at this
    rcases this with h | h
    · exact absurd hdst h
    · exact ⟨h.1.1, h.1.2, h.2⟩
  · intro i o hi ho j oj hj hoj hne d hd
    have := (key i o hi ho).1.1.2 j hj
    rw [hoj] at this
    rcases this with h | h
    · exact absurd h.symm hne
    · simp only [Bool.or_eq_true, bne_iff_ne] at h
      rcases h with h | h
      · rw [hd] at h; cases h
      · rw [hd] at h; exact h
  · intro i o hi ho hm
    have := (key i o hi ho).1.2
    unfold isMade at hm
    split at hm
    · rename_i t ht
      rw [ht] at this
      simp only [Bool.and_eq_true, beq_iff_eq, Option.isNone_iff_eq_none, Option.isSome_iff_exists] at this
      exact ⟨by rw [ht, this.1.1], this.1.2, this.2⟩
    · cases hm
  · intro i o p q hi ho hk
    have := (key i o hi ho).2
    rw [hk] at this
    simp only [Bool.and_eq_true, Option.isNone_iff_eq_none, List.any_eq_true, List.mem_range, List.all_eq_true, Bool.or_eq_true, beq_iff_eq] at this
    obtain ⟨⟨⟨⟨⟨_, g1⟩, g2⟩, g3⟩, g4⟩, g5⟩ := this
    refine ⟨g1, g2, ?_, ?_, ?_⟩
    · obtain ⟨j, hj, h⟩ := g3
      cases hoj : l[j]? with
      | none => rw [hoj] at h; cases h
      | some oj =>
        rw [hoj] at h
        simp only [Bool.and_eq_true, beq_iff_eq] at h
        exact ⟨j, oj, hj, hoj, h.1.1, h.1.2, h.2⟩
    · obtain ⟨j, hj, h⟩ := g4
      cases hoj : l[j]? with
      | none => rw [hoj] at h; cases h
      | some oj =>
        rw [hoj] at h
        simp only [Bool.and_eq_true, beq_iff_eq, Bool.not_eq_true'] at h
        exact ⟨j, oj, hj, hoj, h.1.1, h.1.2, h.2⟩
    · intro j oj p' q' hj hoj hne hk'
      rcases g5 j hj with h | h
      · exact absurd h.symm hne
      · rw [hoj] at h
        simp only [hk', bne_iff_ne] at h
        exact h
  · intro t ht htl i hi
    have h5 := h4 t htl
    simp only [Bool.or_eq_true, decide_eq_true_eq, List.all_eq_true, List.mem_range] at h5
    rcases h5 with h | h
    · omega
    · exact h i hi
end Go.Proofs.Ytkecdfhpoeknkaa
