/- append of zeros, and of bytes, onto a row of the call's own. -/
import Derived.Test.YtpkjogjdacogeaaDoorStQ
import Derived.Lib.AppendZerosOnto
namespace Go.Proofs.YtpkjogjdacogeaaDoor
open Go.RowKit
set_option linter.unusedVariables false
set_option linter.unusedSimpArgs false

theorem run_append_room_zeros {P : Program} (w : World) (t tn ty e : TypeId) (i : TypeInfo) (z : Value) (kq kn : IntKind) (ht : P.underlying t = some (.slice e)) (htn : P.underlying tn = some (.int kn)) (hi : P.info? e = some i) (hz : i.zero = some z) (hzs : z.cells.size = i.size)
    (g sLen sCap : Nat) (cur : Array Value) (hg : w.heap[g]? = some (.cells cur e (0, 0))) (k : Nat) (h0 : 0 < k) (hs : 0 < i.size) (hk7 : k ≤ 1000) (hb : i.bytes ≤ 64) (h1 : ∀ u ∈ (Builtin.zeroCells z.cells k).toList, u.oneCell' = true)
    (hroom : sLen + k ≤ sCap) (hfit : sLen * i.size + (Builtin.zeroCells z.cells k).toList.length ≤ cur.size) :
    (Builtin.append_ #[t, tn] ty #[.slice (some ⟨g, 0, none⟩) sLen sCap, .int kq k]).run P w =
      .ok (.slice (some ⟨g, 0, none⟩) (sLen + k) sCap) (w.setRow g (cur.toList.take (sLen * i.size) ++ (Builtin.zeroCells z.cells k).toList ++ cur.toList.drop (sLen * i.size + (Builtin.zeroCells z.cells k).toList.length)).toArray) := by
  have hst := run_storeCells_at P g (sLen * i.size) e (Builtin.zeroCells z.cells k).toList 0 cur w hg (by simpa using hfit) h1
  simp only [Nat.add_zero] at hst
  have hk : k ≠ 0 := by omega
  have hw : IntKind.i64.wrap (k : Int) = k := by rw [IntKind.wrap_i64]; omega
  have h48i : ¬ (281474976710656 < (k : Int) * (i.bytes : Int)) := by
    have : (k : Int) * (i.bytes : Int) = ((k * i.bytes : Nat) : Int) := by simp
    rw [this]
    have : k * i.bytes ≤ 1000 * 64 := Nat.mul_le_mul hk7 hb
    omega
  have hneg : ¬ ((k : Int) < 0) := by omega
  have hns : ¬ (k * i.size = 0) := Nat.mul_ne_zero hk (by omega)
  simp [Builtin.append_, run_underlying ht, run_underlying htn, sizeOf, typeInfo, zeroValue, hi, hz, asInt, asIntOf, hw, hneg, hns, h48i, hroom, Addr.add_lit, hst]

theorem zeroCells_u8 (k : Nat) : Builtin.zeroCells (Value.int .u8 0).cells k = (by8 (List.replicate k 0)).toArray := by
  unfold Builtin.zeroCells by8
  apply Array.ext
  · simp [Value.cells]
  · intro i h1 h2
    simp [Value.cells, Nat.mod_one]

theorem zeros_own (w : World) (ty : TypeId) (base : Nat) (v : Value) (xs : List Nat) (k : Nat) (hown : w.ownsRow base 5 1 v xs.length (by8 xs)) (hk : k ≤ 7) (hlen : xs.length ≤ 1000000000) (hbase : base ≤ w.heap.size) :
    ∃ v' w', (Builtin.append_ #[22, 3] ty #[v, .int .i64 (k : Int)]).run Tryd.prog w = .ok v' w' ∧ w'.ownsRow base 5 1 v' (xs ++ List.replicate k 0).length (by8 (xs ++ List.replicate k 0)) ∧ Touch w w' (fun i => base ≤ i ∧ v.ownBlock = some i) := by
  obtain ⟨i0, hi, hz0, hz1, hz2⟩ := info_parts Tryd.infoByte
  have hw : IntKind.i64.wrap (k : Int) = k := by rw [IntKind.wrap_i64]; omega
  have hll : (xs ++ List.replicate k 0).length = xs.length + k := by simp
  rw [hll, by8_app]
  have hz8 := zeroCells_u8 k
  have hlen8 : (by8 xs).length = xs.length := length_by8 xs
  have hlenk : (by8 (List.replicate k 0)).length = k := by rw [length_by8]; simp
  rcases Nat.eq_zero_or_pos k with rfl | h0
  · refine ⟨v, w, ?_, by simpa [by8] using hown, Touch.refl _ _⟩
    rcases hown.2 with ⟨rfl, h⟩ | ⟨g, cap, cur, rfl, _, _, hnc, _⟩
    · simp [Builtin.append_, run_underlying Tryd.underlying22, run_underlying Tryd.underlying3, sizeOf, typeInfo, hi, asInt, asIntOf, IntKind.wrap_i64]
    · simp [Builtin.append_, run_underlying Tryd.underlying22, run_underlying Tryd.underlying3, sizeOf, typeInfo, hi, asInt, asIntOf, IntKind.wrap_i64, hnc, storeCells]
  · rcases hown.2 with ⟨rfl, hx0⟩ | ⟨g, cap, cur, rfl, hbg, hg, hnc, hcm, hcs, htake⟩
    · obtain rfl := List.eq_nil_of_length_eq_zero hx0
      have hr := Lib.run_append_nil_zeros (P := Tryd.prog) w 22 3 ty 5 i0 (.int .u8 0) .i64 .i64 Tryd.underlying22 Tryd.underlying3 hi hz0 k h0 (by omega) (by omega) (by rw [hz2]; omega)
      have hge := grownCap_ge w k 0 5
      have hcm : grownCap w k 0 5 ≤ maxLen := grownCap_le_maxLen w k 0 5 (by unfold maxLen; omega)
      refine ⟨_, _, hr, ⟨by simp [by8], .inr ⟨w.heap.size, _, _, by simp, hbase, heap_alloc_new w.drew _, by simpa using hge, hcm, ?_, ?_⟩⟩, ⟨rfl, rfl, rfl, by simp, fun q hq _ => heap_alloc_old w.drew _ hq⟩⟩
      · simp only [Array.size_append, size_zeroCells, Value.cells]
        simp
        omega
      · rw [hz8]
        simp [by8]
    · by_cases hroom : xs.length + k ≤ cap
      · have hzl : (Builtin.zeroCells (Value.int .u8 0).cells k).toList = by8 (List.replicate k 0) := by rw [hz8]
        have hcs' : cur.size = cap := by simpa using hcs
        have hr := run_append_room_zeros (P := Tryd.prog) w 22 3 ty 5 i0 (.int .u8 0) .i64 .i64 Tryd.underlying22 Tryd.underlying3 hi hz0 (by rw [hz1]; rfl) g xs.length cap cur hg k h0 (by omega) (by omega) (by omega)
          (by rw [hzl]; exact by8_one _) hroom (by rw [hzl, hlenk, hz1]; omega)
        rw [hzl, hz1, hlenk, Nat.mul_one] at hr
        refine ⟨_, _, hr, ⟨by rw [List.length_append, hlen8, hlenk, Nat.mul_one], .inr ⟨g, cap, _, rfl, hbg, setRow_heap w g cur _ 5 _ hg, hroom, hcm, ?_, ?_⟩⟩, ⟨rfl, rfl, rfl, by simp, fun q _ hq => setRow_other w g q _ (fun e => hq ⟨e ▸ hbg, by simp [Value.ownBlock, e]⟩)⟩⟩
        · simp only [List.size_toArray, List.length_append, List.length_take, List.length_drop, Array.length_toList, hlenk]
          omega
        · have ht : cur.toList.take xs.length = by8 xs := by simpa using htake
          rw [ht, Nat.mul_one]
          have e : (by8 xs ++ by8 (List.replicate k 0)).length = xs.length + k := by rw [List.length_append, hlen8, hlenk]
          rw [← e]
          exact List.take_left
      · have holds : ∀ j u, (by8 xs)[j]? = some u → w.cell? ((⟨g, 0, none⟩ : Addr).add j) = some u := hown.cells (g := g) rfl
        have hold := run_firstCells_some (P := Tryd.prog) w.drew 1 xs.length ⟨g, 0, none⟩ xs.length cap (by8 xs) (by rw [hlen8, Nat.mul_one]) (by simpa using holds)
        have hr := Lib.run_append_grow_zeros (P := Tryd.prog) w 22 3 ty 5 i0 (.int .u8 0) .i64 .i64 Tryd.underlying22 Tryd.underlying3 hi hz0 (some ⟨g, 0, none⟩) xs.length cap (by8 xs) (by rw [hz1]; exact hold) k h0 (by omega) (by omega) (by omega) (by rw [hz2]; omega)
          (growslice_fits (by omega) (by rw [hz2]; omega))
        have hge := grownCap_ge w (xs.length + k) cap 5
        have hcm2 : grownCap w (xs.length + k) cap 5 ≤ maxLen := grownCap_le_maxLen w (xs.length + k) cap 5 (by unfold maxLen; omega)
        refine ⟨_, _, hr, ⟨by rw [List.length_append, hlen8, hlenk, Nat.mul_one], .inr ⟨w.heap.size, _, _, rfl, hbase, heap_alloc_new w.drew _, hge, hcm2, ?_, ?_⟩⟩, ⟨rfl, rfl, rfl, by simp, fun q hq _ => heap_alloc_old w.drew _ hq⟩⟩
        · simp only [Array.size_append, List.size_toArray, size_zeroCells, hlen8, Value.cells]
          simp
          omega
        · rw [hz8]
          simp only [Array.toList_append, List.append_assoc, Nat.mul_one]
          have e : (by8 xs ++ by8 (List.replicate k 0)).length = xs.length + k := by rw [List.length_append, hlen8, hlenk]
          rw [← List.append_assoc, ← e]
          exact List.take_left

theorem wpl_zeros {w : World} {ops : Array Oper} {rest : List Oper} {o : Oper} {a : Act} {Q : Exit → Act → World → Prop} (hgd : o.guard = none) (s x : Operand)
    (ho : o.op = .call { callee := .builtin .append, args := #[s, x], argTypes := #[22, 3] })
    (base : Nat) (v : Value) (xs : List Nat) (k : Nat) (hs : a.eval s = v) (hx : a.eval x = .int .i64 (k : Int)) (hown : w.ownsRow base 5 1 v xs.length (by8 xs)) (hk : k ≤ 7) (hlen : xs.length ≤ 1000000000) (hbase : base ≤ w.heap.size)
    (h : ∀ v' w', w'.ownsRow base 5 1 v' (xs ++ List.replicate k 0).length (by8 (xs ++ List.replicate k 0)) → Touch w w' (fun i => base ≤ i ∧ v.ownBlock = some i) → wpList Tryd.prog ops Q rest (a.put o.dst v') w') :
    wpList Tryd.prog ops Q (o :: rest) a w := by
  obtain ⟨v', w', hr, h2, h3⟩ := zeros_own w o.type base v xs k hown hk hlen hbase
  exact Lib.wpList_append_run w hgd s x _ _ ho v _ hs hx v' w' hr (h v' w' h2 h3)

theorem bytes_own (w : World) (ty : TypeId) (base : Nat) (v u : Value) (xs bs : List Nat) (hown : w.ownsRow base 5 1 v xs.length (by8 xs)) (hu : Sl w u bs)
    (hlen : xs.length + bs.length ≤ 140737488355328) (hbase : base ≤ w.heap.size) :
    ∃ v' w', (Builtin.append_ #[22, 22] ty #[v, u]).run Tryd.prog w = .ok v' w' ∧ w'.ownsRow base 5 1 v' (xs ++ bs).length (by8 (xs ++ bs)) ∧ Touch w w' (fun i => base ≤ i ∧ v.ownBlock = some i) := by
  obtain ⟨i0, hi, hz0, hz1, hz2⟩ := info_parts Tryd.infoByte
  rw [List.length_append, by8_app]
  rcases hu with ⟨rfl, rfl⟩ | ⟨a, c, rfl, rfl⟩ | ⟨g, o, cap, rfl, hcap, hlt, hcell⟩
  · refine ⟨v, w, ?_, by simpa [by8] using hown, Touch.refl w _⟩
    rcases hown.2 with ⟨rfl, _⟩ | ⟨g, cap, cur, rfl, _, _, hnc, _⟩
    · simp [Builtin.append_, run_underlying Tryd.underlying22, sizeOf, typeInfo, hi, Builtin.lenOf, Builtin.firstCells]
    · simp [Builtin.append_, run_underlying Tryd.underlying22, sizeOf, typeInfo, hi, Builtin.lenOf, Builtin.firstCells, hnc, storeCells]
  · obtain ⟨v', w', h1, h2, h3, _, _⟩ := run_append_own_at (P := Tryd.prog) w base 22 ty 5 i0 (.int .u8 0) 1 1 Tryd.underlying22 hi hz0 hz1 hz2 rfl (by decide) v xs.length (by8 xs) hown a 0 c []
      rfl (fun j u hu => by simp at hu) (fun u hu => by simp at hu) (by unfold maxLen; simp at hlen; omega) (by simp at hlen; omega) hbase
    exact ⟨v', w', h1, by simpa [by8] using h2, Touch.grown h3 (fun k hk => .inl ⟨(hown.lt k hk).1, hk⟩)⟩
  · obtain ⟨v', w', h1, h2, h3, _, _⟩ := run_append_own_at (P := Tryd.prog) w base 22 ty 5 i0 (.int .u8 0) 1 1 Tryd.underlying22 hi hz0 hz1 hz2 rfl (by decide) v xs.length (by8 xs) hown ⟨g, o, none⟩ bs.length cap (by8 bs)
      (by rw [length_by8, Nat.mul_one]) (fun j u hu => by rw [add_at]; exact hcell j u hu) (by8_one bs) (by unfold maxLen; omega) (by omega) hbase
    exact ⟨v', w', h1, h2, Touch.grown h3 (fun k hk => .inl ⟨(hown.lt k hk).1, hk⟩)⟩

/-- append of bytes, where what is there is owned -/
theorem wpl_bytes {w : World} {ops : Array Oper} {rest : List Oper} {o : Oper} {a : Act} {Q : Exit → Act → World → Prop} (hgd : o.guard = none) (s x : Operand)
    (ho : o.op = .call { callee := .builtin .append, args := #[s, x], argTypes := #[22, 22] })
    (base : Nat) (v u : Value) (xs bs : List Nat) (hs : a.eval s = v) (hx : a.eval x = u) (hown : w.ownsRow base 5 1 v xs.length (by8 xs)) (hu : Sl w u bs)
    (hlen : xs.length + bs.length ≤ 140737488355328) (hbase : base ≤ w.heap.size)
    (h : ∀ v' w', w'.ownsRow base 5 1 v' (xs ++ bs).length (by8 (xs ++ bs)) → Touch w w' (fun k => base ≤ k ∧ v.ownBlock = some k) → wpList Tryd.prog ops Q rest (a.put o.dst v') w') :
    wpList Tryd.prog ops Q (o :: rest) a w := by
  obtain ⟨v', w', hr, h2, h3⟩ := bytes_own w o.type base v u xs bs hown hu hlen hbase
  exact Lib.wpList_append_run w hgd s x _ _ ho v _ hs hx v' w' hr (h v' w' h2 h3)
end Go.Proofs.YtpkjogjdacogeaaDoor
