/- A region that draws its order: its head only reads, calls what makes memory of its own, and makes variables of one type; its tail waits for the head and runs in the order of the text. One walk of the head in the order of the text serves every order. Imports nothing of the program. -/
import Derived.Deep.QuietTactic
import Derived.StillTail
import Derived.Lib.QuietBelow
import Derived.Below
import Derived.Laws.OwnMore
namespace Go.Proofs.Ytkecdfhpoeknkaa
set_option linter.unusedVariables false
set_option linter.unusedSimpArgs false
open Go.RowKit

def isMade (o : Oper) : Bool := match o.op with | .alloc _ => true | _ => false
/-- a store into a variable: the temporaries of its address and of the value -/
def keptAt (o : Oper) : Option (Tmp × Tmp) := match o.op with | .store _ (.tmp p) (.tmp q) => some (p, q) | _ => none
def ptr (B : Nat) : Value := .pointer (some ⟨B, 0, none⟩)
/-- the frame in which the operations that 'ls' names have left their values -/
def maskL (ls : Nat → Bool) (f : Nat → Value) : Nat → List Oper → Act → Act
  | _, [], a => a
  | k, o :: l, a => maskL ls f (k + 1) l (if ls k then a.put o.dst (f k) else a)

section
variable {ls ls' : Nat → Bool} {f f' : Nat → Value}
theorem put_size (a : Act) (x : Option Tmp) (v : Value) : (a.put x v).tmps.size = a.tmps.size := by
  cases x <;> simp [Act.put]
theorem put_defers (a : Act) (x : Option Tmp) (v : Value) : (a.put x v).defers = a.defers := by
  cases x <;> simp [Act.put]
theorem maskL_size : ∀ (l : List Oper) (k : Nat) (a : Act), (maskL ls f k l a).tmps.size = a.tmps.size
  | [], _, _ => rfl
  | o :: l, k, a => by
    unfold maskL
    rw [maskL_size l]
    split
    · exact put_size _ _ _
    · rfl
theorem put_slot (a : Act) (x : Option Tmp) (v : Value) (d : Tmp) (h : x ≠ some d) : (a.put x v).tmps.getD d undef = a.tmps.getD d undef := by
  cases x with
  | none => rfl
  | some e =>
    have hne : e ≠ d := fun he => h (by rw [he])
    simp only [Act.put, Array.getD_eq_getD_getElem?, Array.getElem?_setIfInBounds, if_neg hne]
theorem put_here (a b : Act) (v : Value) (d : Tmp) (h : a.tmps.size = b.tmps.size) : (a.put (some d) v).tmps.getD d undef = (b.put (some d) v).tmps.getD d undef := by
  simp only [Act.put, Array.getD_eq_getD_getElem?, Array.getElem?_setIfInBounds, if_true, h]
/-- one slot, in two frames -/
theorem maskL_slot (d : Tmp) : ∀ (l : List Oper) (k : Nat) (a a' : Act), a.tmps.size = a'.tmps.size → a.tmps.getD d undef = a'.tmps.getD d undef →
    (∀ j o, l[j]? = some o → o.dst = some d → ls (k + j) = ls' (k + j) ∧ f (k + j) = f' (k + j)) → (maskL ls f k l a).tmps.getD d undef = (maskL ls' f' k l a').tmps.getD d undef
  | [], _, _, _, _, h, _ => h
  | o :: l, k, a, a', hs, h, hd => by
    unfold maskL
    refine maskL_slot d l (k + 1) _ _ ?_ ?_ ?_
    · split <;> split <;> simp [put_size, hs]
    · by_cases e : o.dst = some d
      · obtain ⟨e1, e2⟩ := hd 0 o rfl e
        simp only [Nat.add_zero] at e1 e2
        rw [e1, e2, e]
        split
        · exact put_here a a' _ d hs
        · exact h
      · have e1 : (if ls k = true then a.put o.dst (f k) else a).tmps.getD d undef = a.tmps.getD d undef := by
          split
          · exact put_slot _ _ _ _ e
          · rfl
        have e2 : (if ls' k = true then a'.put o.dst (f' k) else a').tmps.getD d undef = a'.tmps.getD d undef := by
          split
          · exact put_slot _ _ _ _ e
          · rfl
        rw [e1, e2, h]
    · intro j o' ho hdst
      have := hd (j + 1) o' ho hdst
      rwa [show k + 1 + j = k + (j + 1) by omega]
theorem maskL_congr : ∀ (l : List Oper) (k : Nat) (a : Act), (∀ j, j < l.length → ls (k + j) = ls' (k + j) ∧ (ls (k + j) = true → f (k + j) = f' (k + j))) → maskL ls f k l a = maskL ls' f' k l a
  | [], _, _, _ => rfl
  | o :: l, k, a, h => by
    unfold maskL
    obtain ⟨e1, e2⟩ := h 0 (by simp)
    simp only [Nat.add_zero] at e1 e2
    have : (if ls k = true then a.put o.dst (f k) else a) = (if ls' k = true then a.put o.dst (f' k) else a) := by
      rw [← e1]
      split
      · rename_i h1; rw [e2 h1]
      · rfl
    rw [this]
    exact maskL_congr l (k + 1) _ (fun j hj => by
      have := h (j + 1) (by simp; omega)
      rwa [show k + 1 + j = k + (j + 1) by omega])
theorem maskL_put : ∀ (l : List Oper) (k : Nat) (a : Act) (x : Option Tmp) (v : Value), (∀ j o, l[j]? = some o → ls (k + j) = true → ∀ d, x = some d → o.dst ≠ some d) → (maskL ls f k l a).put x v = maskL ls f k l (a.put x v)
  | [], _, _, _, _, _ => rfl
  | o :: l, k, a, x, v, h => by
    unfold maskL
    rw [maskL_put l (k + 1) _ x v (fun j o' ho hl => by
      have := h (j + 1) o' ho
      rw [show k + (j + 1) = k + 1 + j by omega] at this
      exact this hl)]
    congr 1
    split
    · rename_i h1
      exact (Act.put_comm a v (f k) (h 0 o rfl (by simpa using h1))).symm
    · rfl
/-- one operation more -/
theorem maskL_next : ∀ (l : List Oper) (k i : Nat) (a : Act) (o : Oper), l[i]? = some o → ls (k + i) = false →
    (∀ j o', l[j]? = some o' → j ≠ i → ∀ d, o.dst = some d → o'.dst ≠ some d) →
    (maskL ls f k l a).put o.dst (f (k + i)) = maskL (fun m => m == k + i || ls m) f k l a
  | [], _, _, _, _, h, _, _ => by simp at h
  | c :: l, k, 0, a, o, h, hl, hd => by
    simp at h
    subst h
    unfold maskL
    simp only [Nat.add_zero] at hl ⊢
    rw [hl, if_neg (by simp), maskL_put l (k + 1) a c.dst (f k) (fun j o' ho _ d hd' => hd (j + 1) o' ho (by omega) d hd')]
    simp only [BEq.rfl, Bool.true_or, if_true]
    exact maskL_congr l (k + 1) _ (fun j _ => by
      have : (k + 1 + j == k) = false := by simp; omega
      simp [this])
  | c :: l, k, i + 1, a, o, h, hl, hd => by
    unfold maskL
    have h' : l[i]? = some o := by simpa using h
    rw [show k + (i + 1) = k + 1 + i by omega] at hl ⊢
    rw [maskL_next l (k + 1) i _ o h' hl (fun j o' ho hj d hd' => hd (j + 1) o' ho (by omega) d hd')]
    congr 1
    have : (k == k + 1 + i) = false := by simp; omega
    simp only [this, Bool.false_or]
end
end Go.Proofs.Ytkecdfhpoeknkaa
