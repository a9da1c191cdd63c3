/- Slices of bools that came in. -/
import Derived.Test.YtodolejhdellbaaBitOS
import Derived.Deep.Grids
namespace Go.Proofs.Ytodolejhdellbaa
open Go.ChangeShapes Go.WideShapes Go.RowKit Go.Deep

/-- v is a slice of bools that reads as zs, below block B -/
def Bl (w : World) (B : Nat) (v : Value) (zs : List Bool) : Prop :=
  (∃ A c, v = .slice A 0 c ∧ zs = []) ∨ ∃ g o cap, v = .slice (some ⟨g, o, none⟩) zs.length cap ∧ zs.length ≤ cap ∧ g < B ∧ ∀ k z, zs[k]? = some z → w.cell? ⟨g, o + k, none⟩ = some (.bool z)
theorem Bl.to {w w' : World} {B : Nat} {v : Value} {zs : List Bool} {S : Nat → Prop} (h : Bl w B v zs) (k : Touch w w' S) (hB : B ≤ w.heap.size) (hS : ∀ i, i < B → ¬ S i) : Bl w' B v zs := by
  rcases h with h | ⟨g, o, cap, rfl, h2, h3, h4⟩
  · exact .inl h
  · exact .inr ⟨g, o, cap, rfl, h2, h3, fun j q hq => (k.cell (p := ⟨g, o + j, none⟩) (by show g < _; omega) (hS g h3)).trans (h4 j q hq)⟩
theorem Bl.len {w : World} {B : Nat} {v : Value} {zs : List Bool} (h : Bl w B v zs) : ∃ A c, v = .slice A zs.length c := by
  rcases h with ⟨_, _, rfl, rfl⟩ | ⟨g, o, cap, rfl, _⟩
  · exact ⟨_, _, rfl⟩
  · exact ⟨_, _, rfl⟩
theorem Bl.at_ {w : World} {B n c : Nat} {A : Option Addr} {zs : List Bool} (h : Bl w B (.slice A n c) zs) (k : Nat) (hk : k < zs.length) :
    ∃ g o m, A = some ⟨g, o, none⟩ ∧ g < B ∧ w.cell? ⟨g, o + k, none⟩ = some (.bool m) := by
  have hq : zs[k]? = some zs[k] := List.getElem?_eq_getElem hk
  rcases h with ⟨_, _, _, rfl⟩ | ⟨g, o, cap, hv, _, h3, h4⟩
  · simp at hk
  · injection hv with hv
    subst hv
    exact ⟨g, o, zs[k], rfl, h3, h4 k _ hq⟩

theorem Try.cellsBool : Try.prog.cellsOf 4 = 1 := by kernel_rfl

theorem open_bl {H : Type} {enc : TypeId × Value → H} {W : World} {base : Nat} {v : Value} {d : DataW H} {p : List MemPlace} (hval : Value.okWide Try.prog W .any base 35 v)
    (h : DataW.Trod enc Try.prog W 0 (fun _ => true) true 35 v d p) : ∃ zs, Bl W W.heap.size v zs := by
  obtain ⟨A, n, c, rfl⟩ := okWide_slice Try.underlying35 hval
  obtain ⟨fuel, hf⟩ := h
  rcases open_bools Try.underlying35 Try.underlying4 Try.cellsBool hf with ⟨hc, _⟩ | ⟨a, len, cap, Bf, hc, _, hl, hm, hx, hcell⟩
  · simp [Value.cells] at hc
    obtain ⟨rfl, rfl, rfl⟩ := hc
    exact ⟨[], .inl ⟨_, _, rfl, rfl⟩⟩
  · simp [Value.cells] at hc
    obtain ⟨rfl, rfl, rfl⟩ := hc
    refine ⟨(List.range n).map Bf, ?_⟩
    by_cases hn : n = 0
    · subst hn
      exact .inl ⟨_, _, rfl, rfl⟩
    · have c0 := hcell 0 (by omega)
      have hsp := spot_none c0
      have hbl := World.block_lt_of_cell? W _ c0
      have ha0 : a.add 0 = a := by simp [Addr.add]
      rw [ha0] at hsp hbl
      refine .inr ⟨a.block, a.off, c, by rw [← hsp]; simp, by simpa using hl, hbl, ?_⟩
      intro j u hu
      have hj : j < n := by
        rcases Nat.lt_or_ge j n with h | h
        · exact h
        · rw [List.getElem?_eq_none (by simpa using h)] at hu; cases hu
      have hc := hcell j (by omega)
      rw [hsp, add_at] at hc
      rw [hc]
      rw [List.getElem?_map, List.getElem?_range hj] at hu
      simp only [Option.map_some, Option.some.injEq] at hu
      rw [hu]
end Go.Proofs.Ytodolejhdellbaa
