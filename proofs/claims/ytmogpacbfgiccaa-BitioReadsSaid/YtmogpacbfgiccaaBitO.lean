/- Arguments opened: slices of calls of Put, of bytes. -/
import Derived.Test.YtmogpacbfgiccaaBitN
import Derived.Deep.SlicePairs
import Derived.ChangeSlices
import Derived.Lib.SmallJoins
import Derived.Carry
import Derived.OpenShut
namespace Go.Proofs.Ytmogpacbfgiccaa
open Go.ChangeShapes Go.WideShapes Go.RowKit Go.Deep

theorem Try.cellsOp : Try.prog.cellsOf 34 = 2 := by kernel_rfl
theorem Try.cellsU32 : Try.prog.cellsOf 32 = 1 := by kernel_rfl
theorem Try.cellsInt : Try.prog.cellsOf 3 = 1 := by kernel_rfl
theorem Try.cellsByte : Try.prog.cellsOf 5 = 1 := by kernel_rfl

theorem bounds_u32 {n : Int} (h : (Lit.int .u32 n).wf = true) : 0 ≤ n ∧ n ≤ 4294967295 := by
  simp [Lit.wf, IntKind.min, IntKind.max, IntKind.signed, IntKind.bits] at h
  omega

theorem spot_none {w : World} {a : Addr} {v : Value} (h : w.cell? a = some v) : a = ⟨a.block, a.off, none⟩ := by
  obtain ⟨b, o, s⟩ := a
  cases s with
  | none => rfl
  | some k =>
    simp [World.cell?] at h
    split at h <;> simp_all

theorem open_ops {H : Type} {enc : TypeId × Value → H} {W : World} {base : Nat} {v : Value} {d : DataW H} {p : List MemPlace} (hval : Value.okWide Try.prog W .any base 22 v)
    (h : DataW.Trod enc Try.prog W 0 (fun _ => true) true 22 v d p) : ∃ ops, Ops W W.heap.size v ops := by
  obtain ⟨A, n, c, rfl⟩ := okWide_slice Try.underlying22 hval
  obtain ⟨fuel, hf⟩ := h
  rcases open_slice_pairs Try.underlying22 Try.underlying34 Try.cellsOp rfl rfl Try.cellsU32 Try.cellsInt hf with ⟨hc, _⟩ | ⟨a, len, cap, m, k, V0, V1, D0, D1, P0, P1, hc, _, hl, hm, hmm, hx, hall⟩
  · simp [Value.cells] at hc
    obtain ⟨rfl, rfl, rfl⟩ := hc
    exact ⟨[], by simp, .inl ⟨_, _, rfl, rfl⟩⟩
  · simp [Value.cells] at hc
    obtain ⟨rfl, rfl, rfl⟩ := hc
    have hnm : n ≤ m := by rw [hmm]; split <;> omega
    refine ⟨(List.range n).map fun i => ((match V0 i with | .int _ q => q.toNat | _ => 0), (match V1 i with | .int _ q => q | _ => 0)), ?_, ?_⟩
    · intro q hq
      simp only [List.mem_map, List.mem_range] at hq
      obtain ⟨i, hi, rfl⟩ := hq
      obtain ⟨_, _, t0, t1⟩ := hall i (by omega)
      obtain ⟨x, e0, _, w0⟩ := DataW.trod_int Try.underlying32 t0
      obtain ⟨y, e1, _, w1⟩ := DataW.trod_int Try.underlying3 t1
      simp only [List.cons.injEq, and_true] at e0 e1
      rw [e0, e1]
      have b1 := bounds_i64 w1
      have b0 : 0 ≤ x ∧ x ≤ 4294967295 := bounds_u32 w0
      exact ⟨by show x.toNat < _; omega, by show _ ≤ y; omega, by show y ≤ _; omega⟩
    · by_cases hn : n = 0
      · subst hn
        exact .inl ⟨_, _, rfl, rfl⟩
      · obtain ⟨c0, _, _, _⟩ := hall 0 (by omega)
        have hsp := spot_none c0
        have hb := World.block_lt_of_cell? W _ c0
        simp only [Nat.zero_mul] at hsp hb
        have ha0 : a.add 0 = a := by simp [Addr.add]
        rw [ha0] at hsp hb
        refine .inr ⟨a.block, a.off, c, by rw [← hsp]; simp, by simpa using hl, hb, ?_⟩
        intro j q hq
        have hj : j < n := by
          rcases Nat.lt_or_ge j n with h | h
          · exact h
          · rw [List.getElem?_eq_none (by simpa using h)] at hq; cases hq
        obtain ⟨g0, g1, t0, t1⟩ := hall j (by omega)
        obtain ⟨x, e0, _, w0⟩ := DataW.trod_int Try.underlying32 t0
        obtain ⟨y, e1, _, w1⟩ := DataW.trod_int Try.underlying3 t1
        simp only [List.cons.injEq, and_true] at e0 e1
        have b0 : 0 ≤ x ∧ x ≤ 4294967295 := bounds_u32 w0
        rw [List.getElem?_map, List.getElem?_range hj] at hq
        simp only [Option.map_some, Option.some.injEq] at hq
        rw [e0, e1] at hq
        subst hq
        rw [hsp, add_at, e0] at g0
        rw [hsp, add_at, e1] at g1
        refine ⟨?_, by rw [← Nat.add_assoc] at g1; exact g1⟩
        rw [g0]
        show some (Value.int .u32 x) = some (.int .u32 ((x.toNat : Nat) : Int))
        rw [Int.toNat_of_nonneg b0.1]

theorem open_sl {H : Type} {enc : TypeId × Value → H} {W : World} {base : Nat} {v : Value} {d : DataW H} {p : List MemPlace} (hval : Value.okWide Try.prog W .any base 25 v)
    (h : DataW.Trod enc Try.prog W 0 (fun _ => true) true 25 v d p) : ∃ bs, Sl W v bs ∧ ∀ x ∈ bs, x < 256 := by
  obtain ⟨A, n, c, rfl⟩ := okWide_slice Try.underlying25 hval
  obtain ⟨fuel, hf⟩ := h
  rcases open_ints Try.underlying25 Try.underlying5 Try.cellsByte hf with ⟨hc, _⟩ | ⟨a, len, cap, zs, hc, _, hl, hm, hzl, hx, hcell, hwf⟩
  · simp [Value.cells] at hc
    obtain ⟨rfl, rfl, rfl⟩ := hc
    exact ⟨[], .inl ⟨rfl, rfl⟩, by simp⟩
  · simp [Value.cells] at hc
    obtain ⟨rfl, rfl, rfl⟩ := hc
    have hnz : n ≤ zs.length := by rw [hzl]; split <;> omega
    have hb : ∀ z ∈ zs, 0 ≤ z ∧ z ≤ 255 := fun z hz => by
      exact bounds_u8 (hwf z hz)
    refine ⟨(zs.take n).map Int.toNat, ?_, ?_⟩
    · by_cases hn : n = 0
      · subst hn
        exact .inr (.inl ⟨_, _, rfl, by simp⟩)
      · have c0 := hcell 0 (by omega)
        have hsp := spot_none c0
        have hbl := World.block_lt_of_cell? W _ c0
        have ha0 : a.add 0 = a := by simp [Addr.add]
        rw [ha0] at hsp hbl
        have hlen : ((zs.take n).map Int.toNat).length = n := by simp; omega
        refine .inr (.inr ⟨a.block, a.off, c, by rw [hlen, ← hsp], by rw [hlen]; exact hl, hbl, ?_⟩)
        intro j u hu
        have hj : j < n := by
          rcases Nat.lt_or_ge j n with h | h
          · exact h
          · rw [List.getElem?_eq_none (by rw [length_by8, hlen]; exact h)] at hu; cases hu
        have hc := hcell j (by omega)
        rw [hsp, add_at] at hc
        rw [hc]
        unfold by8 at hu
        have hzj : zs[j]? = some zs[j] := List.getElem?_eq_getElem (by omega)
        have hz := hb zs[j] (List.getElem_mem (by omega))
        rw [List.getElem?_map, List.getElem?_map, List.getElem?_take, if_pos hj, hzj] at hu
        simp only [Option.map_some, Option.some.injEq] at hu
        rw [← hu, List.getD, hzj]
        show some (Value.int .u8 zs[j]) = some (.int .u8 ((zs[j].toNat : Nat) : Int))
        rw [Int.toNat_of_nonneg hz.1]
    · intro x hx
      simp only [List.mem_map] at hx
      obtain ⟨z, hz, rfl⟩ := hx
      have := hb z (List.mem_of_mem_take hz)
      omega
end Go.Proofs.Ytmogpacbfgiccaa
