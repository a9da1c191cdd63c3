/- Two pairs of cells that a region reads; blocks that it makes. -/
import Derived.Test.YthcgcmmkajjhhaaDoorRatB3
import Derived.Below
import Derived.Laws.OwnMore
import Derived.Deep.Draws
import Derived.Laws.Rows
import Derived.Deep.RegionHeld
namespace Go.Proofs.YthcgcmmkajjhhaaDoor
set_option linter.unusedVariables false
set_option linter.unusedSimpArgs false
open Go.RowKit

/-- block g consists of the cells cs of type t, and none of them is frozen -/
def Cel (w : World) (g : Nat) (t : TypeId) (cs : Array Value) : Prop := w.heap[g]? = some (.cells cs t (0, 0))

section
variable {w w' : World} {g : Nat} {t : TypeId} {cs : Array Value}
theorem Cel.lt (h : Cel w g t cs) : g < w.heap.size := by
  unfold Cel at h
  exact (Array.getElem?_eq_some_iff.1 h).1
theorem Cel.cell (h : Cel w g t cs) (i : Nat) : w.cell? ⟨g, i, none⟩ = cs[i]? := cell_of_row w g i cs t (0, 0) h
theorem Cel.free (h : Cel w g t cs) (i : Nat) : w.frozen? ⟨g, i, none⟩ = false := by
  unfold Cel at h
  simp [World.frozen?, h]
theorem Cel.made (w : World) (t : TypeId) (cs : Array Value) : Cel (w.alloc (.cells cs t)) w.heap.size t cs := heap_alloc_new w _
theorem Cel.store (h : Cel w g t cs) (i : Nat) (u : Value) : Cel (w.setCell ⟨g, i, none⟩ u) g t (cs.setIfInBounds i u) := by
  unfold Cel at h ⊢
  simp [World.setCell, Array.getElem?_modify, h]
theorem Cel.apart {g' : Nat} {t' : TypeId} {cs' : Array Value} (h : Cel w g t cs) (h' : Cel w g' t' cs') (hne : t ≠ t') : g ≠ g' := by
  intro e
  subst e
  unfold Cel at h h'
  rw [h] at h'
  simp at h'
  exact hne h'.2
end


section
variable {w w' : World} {g h : Nat} {a b c d : Value}
theorem four_alloc (k : w.cell? ⟨g, 0, none⟩ = some a ∧ w.cell? ⟨g, 1, none⟩ = some b ∧ w.cell? ⟨h, 0, none⟩ = some c ∧ w.cell? ⟨h, 1, none⟩ = some d) (o : Obj) :
    (w.alloc o).cell? ⟨g, 0, none⟩ = some a ∧ (w.alloc o).cell? ⟨g, 1, none⟩ = some b ∧ (w.alloc o).cell? ⟨h, 0, none⟩ = some c ∧ (w.alloc o).cell? ⟨h, 1, none⟩ = some d := by
  obtain ⟨k0, k1, k2, k3⟩ := k
  exact ⟨(World.cell?_alloc_lt w o _ (World.block_lt_of_cell? w _ k0)).trans k0, (World.cell?_alloc_lt w o _ (World.block_lt_of_cell? w _ k1)).trans k1, (World.cell?_alloc_lt w o _ (World.block_lt_of_cell? w _ k2)).trans k2, (World.cell?_alloc_lt w o _ (World.block_lt_of_cell? w _ k3)).trans k3⟩
theorem four_below (hb : Below w.heap.size w w') (k : w.cell? ⟨g, 0, none⟩ = some a ∧ w.cell? ⟨g, 1, none⟩ = some b ∧ w.cell? ⟨h, 0, none⟩ = some c ∧ w.cell? ⟨h, 1, none⟩ = some d) :
    w'.cell? ⟨g, 0, none⟩ = some a ∧ w'.cell? ⟨g, 1, none⟩ = some b ∧ w'.cell? ⟨h, 0, none⟩ = some c ∧ w'.cell? ⟨h, 1, none⟩ = some d := by
  obtain ⟨k0, k1, k2, k3⟩ := k
  exact ⟨(hb.cell (World.block_lt_of_cell? w _ k0)).trans k0, (hb.cell (World.block_lt_of_cell? w _ k1)).trans k1, (hb.cell (World.block_lt_of_cell? w _ k2)).trans k2, (hb.cell (World.block_lt_of_cell? w _ k3)).trans k3⟩
theorem four_set (k : w.cell? ⟨g, 0, none⟩ = some a ∧ w.cell? ⟨g, 1, none⟩ = some b ∧ w.cell? ⟨h, 0, none⟩ = some c ∧ w.cell? ⟨h, 1, none⟩ = some d) (p : Addr) (u : Value) (hg : p.block ≠ g) (hh : p.block ≠ h) :
    (w.setCell p u).cell? ⟨g, 0, none⟩ = some a ∧ (w.setCell p u).cell? ⟨g, 1, none⟩ = some b ∧ (w.setCell p u).cell? ⟨h, 0, none⟩ = some c ∧ (w.setCell p u).cell? ⟨h, 1, none⟩ = some d := by
  obtain ⟨k0, k1, k2, k3⟩ := k
  exact ⟨(World.cell?_setCell_far w p ⟨g, 0, none⟩ u hg).trans k0, (World.cell?_setCell_far w p ⟨g, 1, none⟩ u hg).trans k1, (World.cell?_setCell_far w p ⟨h, 0, none⟩ u hh).trans k2, (World.cell?_setCell_far w p ⟨h, 1, none⟩ u hh).trans k3⟩
end
section
variable {w w' : World} {g : Nat} {t : TypeId} {cs : Array Value}
theorem Cel.below (h : Cel w g t cs) (hb : Below w.heap.size w w') : Cel w' g t cs := (hb.block g h.lt).trans h
theorem Cel.alloc (h : Cel w g t cs) (o : Obj) : Cel (w.alloc o) g t cs := (Below.heap_alloc w o g h.lt).trans h
theorem Cel.far (h : Cel w g t cs) {p : Addr} (hp : g ≠ p.block) (u : Value) : Cel (w.setCell p u) g t cs := (Below.heap_setCell w p u g hp).trans h
theorem Cel.drewN (h : Cel w g t cs) (n : Nat) : Cel (w.drewN n) g t cs := h
theorem Cel.drew (h : Cel w g t cs) : Cel w.drew g t cs := h
end
end Go.Proofs.YthcgcmmkajjhhaaDoor
