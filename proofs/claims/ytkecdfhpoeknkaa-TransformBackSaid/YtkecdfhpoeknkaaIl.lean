/- Arguments that are slices of ints: what they read as. -/
import Derived.Test.YtkecdfhpoeknkaaProg
import Derived.WalkKit
import Derived.Below
import Derived.Laws.OwnMore
import Derived.Deep.SlicePairs
import Derived.ChangeSlices
import Derived.Lib.SmallJoins
import Derived.Carry
import Derived.OpenShut
import Derived.ChangeArms
namespace Go.Proofs.Ytkecdfhpoeknkaa
open Go.ChangeShapes Go.WideShapes Go.RowKit Go.Deep Go.Joins
set_option linter.unusedVariables false
set_option linter.unusedSimpArgs false

theorem Try.cellsInt : Try.prog.cellsOf 3 = 1 := by kernel_rfl
theorem spot_none {w : World} {a : Addr} {v : Value} (h : w.cell? a = some v) : a = ⟨a.block, a.off, none⟩ := by
  obtain ⟨b, o, s⟩ := a
  cases s with
  | none => rfl
  | some k =>
    simp [World.cell?] at h
    split at h <;> simp_all

/-- v is a slice of ints that reads as zs, below block B -/
def Il (w : World) (B : Nat) (v : Value) (zs : List Int) : Prop :=
  (∀ z ∈ zs, -9223372036854775808 ≤ z ∧ z ≤ 9223372036854775807) ∧
  ((∃ A c, v = .slice A 0 c ∧ zs = []) ∨ ∃ g o cap, v = .slice (some ⟨g, o, none⟩) zs.length cap ∧ zs.length ≤ cap ∧ g < B ∧ ∀ k z, zs[k]? = some z → w.cell? ⟨g, o + k, none⟩ = some (.int .i64 z))
theorem Il.len {w : World} {B : Nat} {v : Value} {zs : List Int} (h : Il w B v zs) : ∃ A c, v = .slice A zs.length c := by
  rcases h.2 with ⟨_, _, rfl, rfl⟩ | ⟨g, o, cap, rfl, _⟩
  · exact ⟨_, _, rfl⟩
  · exact ⟨_, _, rfl⟩
theorem Il.at_ {w : World} {B n c : Nat} {A : Option Addr} {zs : List Int} (h : Il w B (.slice A n c) zs) (k : Nat) (hk : k < zs.length) : ∃ g o z, A = some ⟨g, o, none⟩ ∧ g < B ∧ zs[k]? = some z ∧ w.cell? ⟨g, o + k, none⟩ = some (.int .i64 z) ∧ -9223372036854775808 ≤ z ∧ z ≤ 9223372036854775807 := by
  have hq : zs[k]? = some zs[k] := List.getElem?_eq_getElem hk
  have hm := h.1 _ (List.getElem_mem hk)
  rcases h.2 with ⟨_, _, _, rfl⟩ | ⟨g, o, cap, hv, _, h3, h4⟩
  · simp at hk
  · injection hv with hv
    subst hv
    exact ⟨g, o, _, rfl, h3, hq, h4 k _ hq, hm.1, hm.2⟩
theorem Il.below {w w' : World} {B : Nat} {v : Value} {zs : List Int} (h : Il w B v zs) (hb : Below B w w') : Il w' B v zs := by
  refine ⟨h.1, ?_⟩
  rcases h.2 with h1 | ⟨g, o, cap, e, h2, h3, h4⟩
  · exact .inl h1
  · exact .inr ⟨g, o, cap, e, h2, h3, fun k z hz => (Below.cell hb (p := ⟨g, o + k, none⟩) h3).trans (h4 k z hz)⟩

theorem il_add_at (g o j : Nat) : (⟨g, o, none⟩ : Addr).add j = ⟨g, o + j, none⟩ := by
  simp [Addr.add]
theorem open_il {H : Type} {enc : TypeId × Value → H} {W : World} {base : Nat} {v : Value} {d : DataW H} {p : List MemPlace} (hval : Value.okWide Try.prog W .any base 26 v)
    (h : DataW.Trod enc Try.prog W 0 (fun _ => true) true 26 v d p) : ∃ zs, Il W W.heap.size v zs := by
  obtain ⟨A, n, c, rfl⟩ := okWide_slice Try.underlying26 hval
  obtain ⟨fuel, hf⟩ := h
  rcases open_ints Try.underlying26 Try.underlying3 Try.cellsInt hf with ⟨hc, _⟩ | ⟨a, len, cap, zs, hc, _, hl, hm, hzl, hx, hcell, hwf⟩
  · simp [Value.cells] at hc
    obtain ⟨rfl, rfl, rfl⟩ := hc
    exact ⟨[], by simp, .inl ⟨_, _, rfl, rfl⟩⟩
  · simp [Value.cells] at hc
    obtain ⟨rfl, rfl, rfl⟩ := hc
    have hnz : n ≤ zs.length := by rw [hzl]; split <;> omega
    have hlen : (zs.take n).length = n := by simp; omega
    refine ⟨zs.take n, ?_, ?_⟩
    · intro z hz
      exact bounds_i64 (hwf z (List.mem_of_mem_take hz))
    · by_cases hn : n = 0
      · subst hn
        exact .inl ⟨_, _, rfl, by simp⟩
      · have c0 := hcell 0 (by omega)
        have hsp := spot_none c0
        have hbl := World.block_lt_of_cell? W _ c0
        have ha0 : a.add 0 = a := by simp [Addr.add]
        rw [ha0] at hsp hbl
        refine .inr ⟨a.block, a.off, c, by rw [hlen, ← hsp], by rw [hlen]; exact hl, hbl, ?_⟩
        intro j u hu
        have hj : j < n := by
          rcases Nat.lt_or_ge j n with h | h
          · exact h
          · rw [List.getElem?_eq_none (by rw [hlen]; exact h)] at hu; cases hu
        have hc := hcell j (by omega)
        rw [hsp, il_add_at] at hc
        rw [hc]
        have hzj : zs[j]? = some zs[j] := List.getElem?_eq_getElem (by omega)
        rw [List.getElem?_take, if_pos hj, hzj] at hu
        injection hu with hu
        rw [List.getD, hzj, ← hu]
        rfl
end Go.Proofs.Ytkecdfhpoeknkaa
