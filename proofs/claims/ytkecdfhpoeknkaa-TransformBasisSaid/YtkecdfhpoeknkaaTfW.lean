/- Blocks of cells, for the texts of the transform. -/
import Derived.Test.YtkecdfhpoeknkaaProg
import Derived.WalkKit
import Derived.BigRegion
import Derived.BigQuiet
import Derived.Deep.QuietTactic
import Derived.Deep.RegionHeld
import Derived.Deep.RegionHeld3
import Derived.Deep.Cut
import Derived.Deep.DeepCutAuto
import Derived.Deep.MidRow
import Derived.Deep.Draws
import Derived.Lib.Hide
import Derived.Below
import Derived.Laws.OwnMore
import Derived.Laws.Rows
import Derived.Laws.Tables
namespace Go.Proofs.Ytkecdfhpoeknkaa
set_option linter.unusedVariables false
set_option linter.unusedSimpArgs false
open Go.RowKit

/-- What lay in memory before reads as it did. -/
theorem old_cell {W V : World} (h : Below W.heap.size W V) (b o : Nat) (hlt : b < W.heap.size) : V.cell? ⟨b, o, none⟩ = W.cell? ⟨b, o, none⟩ := Below.cell h hlt
theorem old_frozen {W V : World} (h : Below W.heap.size W V) (b o : Nat) (hlt : b < W.heap.size) : V.frozen? ⟨b, o, none⟩ = W.frozen? ⟨b, o, none⟩ := Below.frozen h hlt
theorem ret_bool {a b : Bool} (h : a = b) : Ending.returned (.bool a) = .returned (.bool b) := by rw [h]
theorem below_drewN' {B : Nat} {a w : World} (h : Below B a w) (n : Nat) : Below B a (w.drewN n) := ⟨h.os, h.tape, h.output, h.size, h.block⟩
/-- block g consists of the cells cs of type t, and none of them is frozen -/
def Cel (w : World) (g : Nat) (t : TypeId) (cs : Array Value) : Prop := w.heap[g]? = some (.cells cs t (0, 0))

section
variable {w w' : World} {g : Nat} {t : TypeId} {cs : Array Value}
theorem Cel.lt (h : Cel w g t cs) : g < w.heap.size := by
  unfold Cel at h
  exact (Array.getElem?_eq_some_iff.1 h).1
theorem Cel.cell (h : Cel w g t cs) (i : Nat) : w.cell? ⟨g, i, none⟩ = cs[i]? := cell_of_row w g i cs t (0, 0) h
theorem Cel.free (h : Cel w g t cs) (i : Nat) : w.frozen? ⟨g, i, none⟩ = false := by
  unfold Cel at h
  simp [World.frozen?, h]
theorem Cel.made (w : World) (t : TypeId) (cs : Array Value) : Cel (w.alloc (.cells cs t)) w.heap.size t cs := heap_alloc_new w _
theorem Cel.store (h : Cel w g t cs) (i : Nat) (u : Value) : Cel (w.setCell ⟨g, i, none⟩ u) g t (cs.setIfInBounds i u) := by
  unfold Cel at h ⊢
  simp [World.setCell, Array.getElem?_modify, h]
theorem Cel.apart {g' : Nat} {t' : TypeId} {cs' : Array Value} (h : Cel w g t cs) (h' : Cel w g' t' cs') (hne : t ≠ t') : g ≠ g' := by
  intro e
  subst e
  unfold Cel at h h'
  rw [h] at h'
  simp at h'
  exact hne h'.2
end


section
variable {w w' : World} {g : Nat} {t : TypeId} {cs : Array Value}
theorem Cel.below (h : Cel w g t cs) (hb : Below w.heap.size w w') : Cel w' g t cs := (hb.block g h.lt).trans h
theorem Cel.alloc (h : Cel w g t cs) (o : Obj) : Cel (w.alloc o) g t cs := (Below.heap_alloc w o g h.lt).trans h
theorem Cel.far (h : Cel w g t cs) {p : Addr} (hp : g ≠ p.block) (u : Value) : Cel (w.setCell p u) g t cs := (Below.heap_setCell w p u g hp).trans h
theorem Cel.drewN (h : Cel w g t cs) (n : Nat) : Cel (w.drewN n) g t cs := h
theorem Cel.drew (h : Cel w g t cs) : Cel w.drew g t cs := h
end
end Go.Proofs.Ytkecdfhpoeknkaa
