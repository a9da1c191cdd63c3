/- Arguments opened: slices of ints. -/
import Derived.Test.YtodolejhdellbaaBitOS
import Derived.Test.YtodolejhdellbaaBitTw
namespace Go.Proofs.Ytodolejhdellbaa
open Go.ChangeShapes Go.WideShapes Go.RowKit Go.Deep

theorem open_il {H : Type} {enc : TypeId × Value → H} {W : World} {base : Nat} {v : Value} {d : DataW H} {p : List MemPlace} (hval : Value.okWide Try.prog W .any base 48 v)
    (h : DataW.Trod enc Try.prog W 0 (fun _ => true) true 48 v d p) : ∃ zs, Il W W.heap.size v zs := by
  obtain ⟨A, n, c, rfl⟩ := okWide_slice Try.underlying48 hval
  obtain ⟨fuel, hf⟩ := h
  rcases open_ints Try.underlying48 Try.underlying3 Try.cellsInt hf with ⟨hc, _⟩ | ⟨a, len, cap, zs, hc, _, hl, hm, hzl, hx, hcell, hwf⟩
  · simp [Value.cells] at hc
    obtain ⟨rfl, rfl, rfl⟩ := hc
    exact ⟨[], by simp, .inl ⟨_, _, rfl, rfl⟩⟩
  · simp [Value.cells] at hc
    obtain ⟨rfl, rfl, rfl⟩ := hc
    have hnz : n ≤ zs.length := by rw [hzl]; split <;> omega
    have hlen : (zs.take n).length = n := by simp; omega
    refine ⟨zs.take n, ?_, ?_⟩
    · intro z hz
      exact bounds_i64 (hwf z (List.mem_of_mem_take hz))
    · by_cases hn : n = 0
      · subst hn
        exact .inl ⟨_, _, rfl, by simp⟩
      · have c0 := hcell 0 (by omega)
        have hsp := spot_none c0
        have hbl := World.block_lt_of_cell? W _ c0
        have ha0 : a.add 0 = a := by simp [Addr.add]
        rw [ha0] at hsp hbl
        refine .inr ⟨a.block, a.off, c, by rw [hlen, ← hsp], by rw [hlen]; exact hl, hbl, ?_⟩
        intro j u hu
        have hj : j < n := by
          rcases Nat.lt_or_ge j n with h | h
          · exact h
          · rw [List.getElem?_eq_none (by rw [hlen]; exact h)] at hu; cases hu
        have hc := hcell j (by omega)
        rw [hsp, add_at] at hc
        rw [hc]
        have hzj : zs[j]? = some zs[j] := List.getElem?_eq_getElem (by omega)
        rw [List.getElem?_take, if_pos hj, hzj] at hu
        injection hu with hu
        rw [List.getD, hzj, ← hu]
        rfl
end Go.Proofs.Ytodolejhdellbaa
