/- Arguments opened: slices of bytes, units, lists of units. -/
import Derived.Test.YtpkjogjdacogeaaDoorStF
import Derived.Deep.SlicePairs
import Derived.ChangeSlices
import Derived.Lib.SmallJoins
import Derived.Carry
import Derived.OpenShut
import Derived.ChangeArms
namespace Go.Proofs.YtpkjogjdacogeaaDoor
open Go.ChangeShapes Go.WideShapes Go.RowKit Go.Deep Go.Joins
set_option linter.unusedVariables false
set_option linter.unusedSimpArgs false

theorem Tryd.cellsByte : Tryd.prog.cellsOf 5 = 1 := by kernel_rfl
theorem Tryd.cellsUnit : Tryd.prog.cellsOf 33 = 2 := by kernel_rfl
theorem Tryd.cellsInt : Tryd.prog.cellsOf 3 = 1 := by kernel_rfl
theorem Tryd.cellsBytes : Tryd.prog.cellsOf 22 = 1 := by kernel_rfl

theorem spot_none {w : World} {a : Addr} {v : Value} (h : w.cell? a = some v) : a = ⟨a.block, a.off, none⟩ := by
  obtain ⟨b, o, s⟩ := a
  cases s with
  | none => rfl
  | some k =>
    simp [World.cell?] at h
    split at h <;> simp_all

theorem open_sl_cells {H : Type} {enc : TypeId × Value → H} {W : World} {v : Value} {fuel : Nat} {x : DataW H × List MemPlace}
    (hf : DataW.trod enc Tryd.prog W 0 (fun _ => true) true fuel 22 [v] = some x) : ∃ bs, Sl W v bs ∧ (∀ y ∈ bs, y < 256) ∧ ∀ i, bs ≠ [] → v.ownBlock = some i → i < W.heap.size := by
  rcases open_ints Tryd.underlying22 Tryd.underlying5 Tryd.cellsByte hf with ⟨hc, _⟩ | ⟨a, len, cap, zs, hc, _, hl, hm, hzl, hx, hcell, hwf⟩
  · simp at hc
    subst hc
    exact ⟨[], .inl ⟨rfl, rfl⟩, by simp, fun i h => absurd rfl h⟩
  · simp at hc
    subst hc
    have hnz : len ≤ zs.length := by rw [hzl]; split <;> omega
    have hb : ∀ z ∈ zs, 0 ≤ z ∧ z ≤ 255 := fun z hz => by
      exact bounds_u8 (hwf z hz)
    refine ⟨(zs.take len).map Int.toNat, ?_, ?_, ?_⟩
    · by_cases hn : len = 0
      · subst hn
        exact .inr (.inl ⟨_, _, rfl, by simp⟩)
      · have c0 := hcell 0 (by omega)
        have hsp := spot_none c0
        have hbl := World.block_lt_of_cell? W _ c0
        have ha0 : a.add 0 = a := by simp [Addr.add]
        rw [ha0] at hsp hbl
        have hlen : ((zs.take len).map Int.toNat).length = len := by simp; omega
        refine .inr (.inr ⟨a.block, a.off, cap, by rw [hlen, ← hsp], by rw [hlen]; exact hl, hbl, ?_⟩)
        intro j u hu
        have hj : j < len := by
          rcases Nat.lt_or_ge j len with h | h
          · exact h
          · rw [List.getElem?_eq_none (by rw [length_by8, hlen]; exact h)] at hu; cases hu
        have hc := hcell j (by omega)
        rw [hsp, add_at] at hc
        rw [hc]
        unfold by8 at hu
        have hzj : zs[j]? = some zs[j] := List.getElem?_eq_getElem (by omega)
        have hz := hb zs[j] (List.getElem_mem (by omega))
        rw [List.getElem?_map, List.getElem?_map, List.getElem?_take, if_pos hj, hzj] at hu
        simp only [Option.map_some, Option.some.injEq] at hu
        rw [← hu, List.getD, hzj]
        show some (Value.int .u8 zs[j]) = some (.int .u8 ((zs[j].toNat : Nat) : Int))
        rw [Int.toNat_of_nonneg hz.1]
    · intro x hx
      simp only [List.mem_map] at hx
      obtain ⟨z, hz, rfl⟩ := hx
      have := hb z (List.mem_of_mem_take hz)
      omega
    · intro i hne hi
      by_cases hn : len = 0
      · subst hn; simp at hne
      · have c0 := hcell 0 (by omega)
        have hbl := World.block_lt_of_cell? W _ c0
        have ha0 : a.add 0 = a := by simp [Addr.add]
        rw [ha0] at hbl
        simp [Value.ownBlock] at hi
        omega

theorem open_sl {H : Type} {enc : TypeId × Value → H} {W : World} {base : Nat} {v : Value} {d : DataW H} {p : List MemPlace} (hval : Value.okWide Tryd.prog W .any base 22 v)
    (h : DataW.Trod enc Tryd.prog W 0 (fun _ => true) true 22 v d p) : ∃ bs, Sl W v bs ∧ ∀ x ∈ bs, x < 256 := by
  obtain ⟨A, n, c, rfl⟩ := okWide_slice Tryd.underlying22 hval
  obtain ⟨fuel, hf⟩ := h
  obtain ⟨bs, h1, h2, _⟩ := open_sl_cells (v := .slice A n c) (by simpa [Value.cells] using hf)
  exact ⟨bs, h1, h2⟩

/-- a unit as an argument -/
theorem open_unit {H : Type} {enc : TypeId × Value → H} {W : World} {base : Nat} {v : Value} {d : DataW H} {p : List MemPlace} (hval : Value.okWide Tryd.prog W .any base 33 v)
    (h : DataW.Trod enc Tryd.prog W 0 (fun _ => true) true 33 v d p) : ∃ t u bs, v = .agg #[.int .i64 t, u] ∧ (-9223372036854775808 ≤ t ∧ t ≤ 9223372036854775807) ∧ Sl W u bs ∧ (∀ x ∈ bs, x < 256) ∧ ∀ i, bs ≠ [] → u.ownBlock = some i → i < W.heap.size := by
  obtain ⟨x0, z0, y0, u0, m0, rfl, rfl, rfl, hy0, hu0⟩ := open_agg2 Tryd.underlying33 (by kernel_rfl) Tryd.cellsUnit hval h
  obtain ⟨n0, en0, rfl, wn0⟩ := DataW.trod_int Tryd.underlying3 hy0
  simp at en0
  subst en0
  obtain ⟨bs, h1, h2, h3⟩ := open_sl_cells hu0
  exact ⟨n0, z0, bs, rfl, bounds_i64 wn0, h1, h2, h3⟩

/-- v is a slice of units that reads as us; all of it lies below block B -/
def Us (w : World) (B : Nat) (v : Value) (us : List (Int × List Nat)) : Prop :=
  (∀ q ∈ us, (-9223372036854775808 ≤ q.1 ∧ q.1 ≤ 9223372036854775807) ∧ ∀ x ∈ q.2, x < 256) ∧
  ((∃ A c, v = .slice A 0 c ∧ us = []) ∨ ∃ g o cap, v = .slice (some ⟨g, o, none⟩) us.length cap ∧ us.length ≤ cap ∧ g < B ∧ ∀ k q, us[k]? = some q → ∃ u, w.cell? ⟨g, o + k * 2, none⟩ = some (.int .i64 q.1) ∧ w.cell? ⟨g, o + k * 2 + 1, none⟩ = some u ∧ Sl w u q.2 ∧ ∀ i, q.2 ≠ [] → u.ownBlock = some i → i < B)

theorem Us.to {w w' : World} {B : Nat} {v : Value} {us : List (Int × List Nat)} {S : Nat → Prop} (h : Us w B v us) (k : Touch w w' S) (hB : B ≤ w.heap.size) (hS : ∀ i, i < B → ¬ S i) : Us w' B v us := by
  refine ⟨h.1, ?_⟩
  rcases h.2 with h | ⟨g, o, cap, rfl, h2, h3, h4⟩
  · exact .inl h
  · refine .inr ⟨g, o, cap, rfl, h2, h3, fun j q hq => ?_⟩
    obtain ⟨u, a, b, c, d⟩ := h4 j q hq
    exact ⟨u, (k.cell (p := ⟨g, o + j * 2, none⟩) (by show g < _; omega) (hS g h3)).trans a, (k.cell (p := ⟨g, o + j * 2 + 1, none⟩) (by show g < _; omega) (hS g h3)).trans b, c.to k (fun i hne hi => hS i (d i hne hi)), d⟩
theorem Us.len {w : World} {B : Nat} {v : Value} {us : List (Int × List Nat)} (h : Us w B v us) : ∃ A c, v = .slice A us.length c := by
  rcases h.2 with ⟨_, _, rfl, rfl⟩ | ⟨g, o, cap, rfl, _⟩
  · exact ⟨_, _, rfl⟩
  · exact ⟨_, _, rfl⟩
theorem Us.at_ {w : World} {B n c : Nat} {A : Option Addr} {us : List (Int × List Nat)} (h : Us w B (.slice A n c) us) (k : Nat) (hk : k < us.length) :
    ∃ g o t bs u, A = some ⟨g, o, none⟩ ∧ g < B ∧ us[k]? = some (t, bs) ∧ w.cell? ⟨g, o + k * 2, none⟩ = some (.int .i64 t) ∧ w.cell? ⟨g, o + k * 2 + 1, none⟩ = some u ∧ Sl w u bs ∧ (∀ i, bs ≠ [] → u.ownBlock = some i → i < B) ∧ (∀ x ∈ bs, x < 256) ∧ -9223372036854775808 ≤ t ∧ t ≤ 9223372036854775807 := by
  have hq : us[k]? = some us[k] := List.getElem?_eq_getElem hk
  have hm := h.1 _ (List.getElem_mem hk)
  rcases h.2 with ⟨_, _, _, rfl⟩ | ⟨g, o, cap, hv, _, h3, h4⟩
  · simp at hk
  · injection hv with hv
    subst hv
    obtain ⟨u, a, b, c, d⟩ := h4 k _ hq
    exact ⟨g, o, us[k].1, us[k].2, u, rfl, h3, hq, a, b, c, d, hm.2, hm.1.1, hm.1.2⟩

theorem open_us {H : Type} {enc : TypeId × Value → H} {W : World} {base : Nat} {v : Value} {d : DataW H} {p : List MemPlace} (hval : Value.okWide Tryd.prog W .any base 42 v)
    (h : DataW.Trod enc Tryd.prog W 0 (fun _ => true) true 42 v d p) : ∃ us, Us W W.heap.size v us := by
  obtain ⟨A, n, c, rfl⟩ := okWide_slice Tryd.underlying42 hval
  obtain ⟨fuel, hf⟩ := h
  rcases open_slice_pairs Tryd.underlying42 Tryd.underlying33 Tryd.cellsUnit rfl rfl Tryd.cellsInt Tryd.cellsBytes hf with ⟨hc, _⟩ | ⟨a, len, cap, m, k, V0, V1, D0, D1, P0, P1, hc, _, hl, hm, hmm, hx, hall⟩
  · simp [Value.cells] at hc
    obtain ⟨rfl, rfl, rfl⟩ := hc
    exact ⟨[], by simp, .inl ⟨_, _, rfl, rfl⟩⟩
  · simp [Value.cells] at hc
    obtain ⟨rfl, rfl, rfl⟩ := hc
    have hnm : n ≤ m := by rw [hmm]; split <;> omega
    have hpay : ∀ i, i < n → ∃ bs, Sl W (V1 i) bs ∧ (∀ y ∈ bs, y < 256) ∧ ∀ j, bs ≠ [] → (V1 i).ownBlock = some j → j < W.heap.size := by
      intro i hi
      obtain ⟨_, _, _, t1⟩ := hall i (by omega)
      exact open_sl_cells t1
    have hpay2 : ∃ B : Nat → List Nat, ∀ i, i < n → Sl W (V1 i) (B i) ∧ (∀ y ∈ B i, y < 256) ∧ ∀ j, B i ≠ [] → (V1 i).ownBlock = some j → j < W.heap.size := by
      refine ⟨fun i => if h : i < n then Classical.choose (hpay i h) else [], fun i hi => ?_⟩
      simp only [dif_pos hi]
      exact Classical.choose_spec (hpay i hi)
    obtain ⟨B, hB⟩ := hpay2
    refine ⟨(List.range n).map fun i => ((match V0 i with | .int _ q => q | _ => 0), B i), ?_, ?_⟩
    · intro q hq
      simp only [List.mem_map, List.mem_range] at hq
      obtain ⟨i, hi, rfl⟩ := hq
      obtain ⟨_, _, t0, t1⟩ := hall i (by omega)
      obtain ⟨x, e0, _, w0⟩ := DataW.trod_int Tryd.underlying3 t0
      simp only [List.cons.injEq, and_true] at e0
      rw [e0]
      have b0 := bounds_i64 w0
      exact ⟨⟨by show _ ≤ x; omega, by show x ≤ _; omega⟩, (hB i hi).2.1⟩
    · by_cases hn : n = 0
      · subst hn
        exact .inl ⟨_, _, rfl, rfl⟩
      · obtain ⟨c0, _, _, _⟩ := hall 0 (by omega)
        have hsp := spot_none c0
        have hb := World.block_lt_of_cell? W _ c0
        simp only [Nat.zero_mul] at hsp hb
        have ha0 : a.add 0 = a := by simp [Addr.add]
        rw [ha0] at hsp hb
        refine .inr ⟨a.block, a.off, c, by rw [← hsp]; simp, by simpa using hl, hb, ?_⟩
        intro j q hq
        have hj : j < n := by
          rcases Nat.lt_or_ge j n with h | h
          · exact h
          · rw [List.getElem?_eq_none (by simpa using h)] at hq; cases hq
        obtain ⟨g0, g1, t0, t1⟩ := hall j (by omega)
        obtain ⟨x, e0, _, w0⟩ := DataW.trod_int Tryd.underlying3 t0
        simp only [List.cons.injEq, and_true] at e0
        rw [List.getElem?_map, List.getElem?_range hj] at hq
        simp only [Option.map_some, Option.some.injEq] at hq
        rw [e0] at hq
        subst hq
        rw [hsp, add_at, e0] at g0
        rw [hsp, add_at] at g1
        exact ⟨V1 j, g0, by rw [← Nat.add_assoc] at g1; exact g1, (hB j hj).1, (hB j hj).2.2⟩
end Go.Proofs.YtpkjogjdacogeaaDoor
