/- Arguments opened: slices of bytes. -/
import Derived.Test.YtodolejhdellbaaBitC
import Derived.Deep.SlicePairs
import Derived.ChangeSlices
import Derived.Lib.SmallJoins
import Derived.Carry
import Derived.OpenShut
namespace Go.Proofs.Ytodolejhdellbaa
open Go.ChangeShapes Go.WideShapes Go.RowKit Go.Deep

theorem Try.cellsInt : Try.prog.cellsOf 3 = 1 := by kernel_rfl
theorem Try.cellsByte : Try.prog.cellsOf 5 = 1 := by kernel_rfl

theorem spot_none {w : World} {a : Addr} {v : Value} (h : w.cell? a = some v) : a = ⟨a.block, a.off, none⟩ := by
  obtain ⟨b, o, s⟩ := a
  cases s with
  | none => rfl
  | some k =>
    simp [World.cell?] at h
    split at h <;> simp_all

theorem open_sl {H : Type} {enc : TypeId × Value → H} {W : World} {base : Nat} {v : Value} {d : DataW H} {p : List MemPlace} (hval : Value.okWide Try.prog W .any base 31 v)
    (h : DataW.Trod enc Try.prog W 0 (fun _ => true) true 31 v d p) : ∃ bs, Sl W v bs ∧ ∀ x ∈ bs, x < 256 := by
  obtain ⟨A, n, c, rfl⟩ := okWide_slice Try.underlying31 hval
  obtain ⟨fuel, hf⟩ := h
  rcases open_ints Try.underlying31 Try.underlying5 Try.cellsByte hf with ⟨hc, _⟩ | ⟨a, len, cap, zs, hc, _, hl, hm, hzl, hx, hcell, hwf⟩
  · simp [Value.cells] at hc
    obtain ⟨rfl, rfl, rfl⟩ := hc
    exact ⟨[], .inl ⟨rfl, rfl⟩, by simp⟩
  · simp [Value.cells] at hc
    obtain ⟨rfl, rfl, rfl⟩ := hc
    have hnz : n ≤ zs.length := by rw [hzl]; split <;> omega
    have hb : ∀ z ∈ zs, 0 ≤ z ∧ z ≤ 255 := fun z hz => by
      exact bounds_u8 (hwf z hz)
    refine ⟨(zs.take n).map Int.toNat, ?_, ?_⟩
    · by_cases hn : n = 0
      · subst hn
        exact .inr (.inl ⟨_, _, rfl, by simp⟩)
      · have c0 := hcell 0 (by omega)
        have hsp := spot_none c0
        have hbl := World.block_lt_of_cell? W _ c0
        have ha0 : a.add 0 = a := by simp [Addr.add]
        rw [ha0] at hsp hbl
        have hlen : ((zs.take n).map Int.toNat).length = n := by simp; omega
        refine .inr (.inr ⟨a.block, a.off, c, by rw [hlen, ← hsp], by rw [hlen]; exact hl, hbl, ?_⟩)
        intro j u hu
        have hj : j < n := by
          rcases Nat.lt_or_ge j n with h | h
          · exact h
          · rw [List.getElem?_eq_none (by rw [length_by8, hlen]; exact h)] at hu; cases hu
        have hc := hcell j (by omega)
        rw [hsp, add_at] at hc
        rw [hc]
        unfold by8 at hu
        have hzj : zs[j]? = some zs[j] := List.getElem?_eq_getElem (by omega)
        have hz := hb zs[j] (List.getElem_mem (by omega))
        rw [List.getElem?_map, List.getElem?_map, List.getElem?_take, if_pos hj, hzj] at hu
        simp only [Option.map_some, Option.some.injEq] at hu
        rw [← hu, List.getD, hzj]
        show some (Value.int .u8 zs[j]) = some (.int .u8 ((zs[j].toNat : Nat) : Int))
        rw [Int.toNat_of_nonneg hz.1]
    · intro x hx
      simp only [List.mem_map] at hx
      obtain ⟨z, hz, rfl⟩ := hx
      have := hb z (List.mem_of_mem_take hz)
      omega
end Go.Proofs.Ytodolejhdellbaa
