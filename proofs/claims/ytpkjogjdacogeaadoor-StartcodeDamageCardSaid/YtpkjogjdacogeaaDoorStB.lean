/- Slices of bytes that the call reads or has made; append onto them; SameBytes. -/
import Derived.Test.YtpkjogjdacogeaaDoorProg
import Derived.Test.YtpkjogjdacogeaaDoorStM
import Derived.Test.YtpkjogjdacogeaaDoorBitW
import Derived.WalkKit
import Derived.RegionTactic
import Derived.BigRegion
import Derived.ChangeAlike
import Derived.OwnWalk
import Derived.Maps.AppendAt
import Derived.Outline
import Derived.ArgAppend
import Derived.Laws.OwnMore
import Derived.Deep.RegionLaw
import Derived.Laws.BytesArg
import Derived.Lib.BufferRead
namespace Go.Proofs.YtpkjogjdacogeaaDoor
open Go.RowKit
set_option linter.unusedVariables false
set_option linter.unusedSimpArgs false

theorem Tryd.infoByte : (Tryd.prog.info? 5).map (fun i => (i.zero, i.size, i.bytes)) = some (some (.int .u8 0), 1, 1) := by kernel_rfl

/-- the cells of a list of bytes -/
def by8 (l : List Nat) : List Value := l.map fun (n : Nat) => .int .u8 (n : Int)
theorem length_by8 (bs : List Nat) : (by8 bs).length = bs.length := by simp [by8]
theorem by8_app (l m : List Nat) : by8 (l ++ m) = by8 l ++ by8 m := by unfold by8; rw [List.map_append]
theorem by8_one (bs : List Nat) : ∀ u ∈ by8 bs, u.oneCell' = true := by
  intro u hu
  unfold by8 at hu
  simp only [List.mem_map] at hu
  obtain ⟨n, _, rfl⟩ := hu
  rfl
theorem by8_get (bs : List Nat) (i : Nat) (hi : i < bs.length) : (by8 bs)[i]? = some (.int .u8 ((bs.getD i 0 : Nat) : Int)) := by
  unfold by8
  rw [List.getElem?_map, List.getElem?_eq_getElem hi]
  simp [List.getD, hi]
theorem add_at (g o j : Nat) : (⟨g, o, none⟩ : Addr).add j = ⟨g, o + j, none⟩ := by
  unfold Addr.add; split <;> simp_all

/-- v is a slice that reads as the bytes bs -/
def Sl (w : World) (v : Value) (bs : List Nat) : Prop :=
  (v = .slice none 0 0 ∧ bs = []) ∨ (∃ a c, v = .slice (some a) 0 c ∧ bs = []) ∨ ∃ g o cap, v = .slice (some ⟨g, o, none⟩) bs.length cap ∧ bs.length ≤ cap ∧ g < w.heap.size ∧ ∀ j u, (by8 bs)[j]? = some u → w.cell? ⟨g, o + j, none⟩ = some u

theorem Sl.own {w : World} {base n : Nat} {v : Value} {bs : List Nat} (h : w.ownsRow base 5 1 v n (by8 bs)) : Sl w v bs := by
  have hl : bs.length = n := by have := h.1; unfold by8 at this; simpa using this
  subst hl
  rcases h.2 with ⟨rfl, h2⟩ | ⟨g, cap, cur, rfl, hb, hg, h3, h4, h5⟩
  · exact .inl ⟨rfl, List.eq_nil_of_length_eq_zero h2⟩
  · exact .inr (.inr ⟨g, 0, cap, rfl, h3, (Array.getElem?_eq_some_iff.1 hg).1, fun j u hu => by rw [← add_at]; exact h.cells (g := g) rfl j u hu⟩)
theorem Sl.to {w w' : World} {v : Value} {bs : List Nat} {S : Nat → Prop} (h : Sl w v bs) (k : Touch w w' S) (hS : ∀ i, bs ≠ [] → v.ownBlock = some i → ¬ S i) : Sl w' v bs := by
  rcases h with h | h | ⟨g, o, cap, rfl, h2, h3, h4⟩
  · exact .inl h
  · exact .inr (.inl h)
  · by_cases hb : bs = []
    · subst hb; exact .inr (.inl ⟨_, _, rfl, rfl⟩)
    · exact .inr (.inr ⟨g, o, cap, rfl, h2, Nat.lt_of_lt_of_le h3 k.size, fun j u hu => (k.cell (p := ⟨g, o + j, none⟩) h3 (hS g hb rfl)).trans (h4 j u hu)⟩)
theorem Sl.len {w : World} {v : Value} {bs : List Nat} (h : Sl w v bs) : ∃ A c, v = .slice A bs.length c := by
  rcases h with ⟨rfl, rfl⟩ | ⟨a, c, rfl, rfl⟩ | ⟨g, o, cap, rfl, _⟩
  · exact ⟨_, _, rfl⟩
  · exact ⟨_, _, rfl⟩
  · exact ⟨_, _, rfl⟩
theorem Sl.at_ {w : World} {g o n cap : Nat} {bs : List Nat} (h : Sl w (.slice (some ⟨g, o, none⟩) n cap) bs) (i : Nat) (hi : i < bs.length) : w.cell? ⟨g, o + i, none⟩ = some (.int .u8 ((bs.getD i 0 : Nat) : Int)) := by
  rcases h with ⟨h, _⟩ | ⟨_, _, _, h⟩ | ⟨g', o', cap', hv, _, _, h4⟩
  · simp at h
  · subst h; simp at hi
  · simp only [Value.slice.injEq, Option.some.injEq, Addr.mk.injEq, and_true] at hv
    obtain ⟨⟨rfl, rfl⟩, _, _⟩ := hv
    exact h4 i _ (by8_get bs i hi)
/-- a slice that has bytes lies somewhere -/
theorem Sl.some_ {w : World} {v : Value} {bs : List Nat} (h : Sl w v bs) (hn : 0 < bs.length) :
    ∃ g o cap, v = .slice (some ⟨g, o, none⟩) bs.length cap ∧ bs.length ≤ cap ∧ g < w.heap.size ∧ ∀ i, i < bs.length → w.cell? ⟨g, o + i, none⟩ = some (.int .u8 ((bs.getD i 0 : Nat) : Int)) := by
  rcases h with ⟨_, rfl⟩ | ⟨_, _, _, rfl⟩ | ⟨g, o, cap, rfl, h2, h3, h4⟩
  · simp at hn
  · simp at hn
  · exact ⟨g, o, cap, rfl, h2, h3, fun i hi => h4 i _ (by8_get bs i hi)⟩

/-- v is a slice of the call's own with the bytes bs, or it is empty and has no room -/
def Ow (w : World) (base : Nat) (v : Value) (bs : List Nat) : Prop :=
  (∃ a, v = .slice (some a) 0 0 ∧ bs = []) ∨ w.ownsRow base 5 1 v bs.length (by8 bs)
theorem Ow.nil (w : World) (base : Nat) : Ow w base (.slice none 0 0) [] := .inr (World.ownsRow_nil _ _ _ _)
theorem Ow.sl {w : World} {base : Nat} {v : Value} {bs : List Nat} (h : Ow w base v bs) : Sl w v bs := by
  rcases h with ⟨a, rfl, rfl⟩ | h
  · exact .inr (.inl ⟨_, _, rfl, rfl⟩)
  · exact Sl.own h
theorem Ow.from_ {w : World} {base : Nat} {v : Value} {bs : List Nat} (h : Ow w base v bs) (hb : bs ≠ []) : ∀ i, v.ownBlock = some i → base ≤ i ∧ i < w.heap.size := by
  rcases h with ⟨a, rfl, rfl⟩ | h
  · exact absurd rfl hb
  · intro i hi; exact h.lt i hi
theorem Ow.to {w w' : World} {base : Nat} {v : Value} {bs : List Nat} {S : Nat → Prop} (h : Ow w base v bs) (k : Touch w w' S) (hS : ∀ i, base ≤ i → i < w.heap.size → v.ownBlock = some i → ¬ S i) : Ow w' base v bs := by
  rcases h with h | h
  · exact .inl h
  · exact .inr (own_kept h k (fun i hi => hS i (h.lt i hi).1 (h.lt i hi).2 hi))
theorem Ow.less {w : World} {base base' : Nat} {v : Value} {bs : List Nat} (h : Ow w base v bs) (hb : base' ≤ base) : Ow w base' v bs := by
  rcases h with h | h
  · exact .inl h
  · exact .inr (own_more h (fun i hi => Nat.le_trans hb (h.lt i hi).1))

/-- append onto it -/
theorem append_ow (w : World) (ty : TypeId) (base : Nat) (v u : Value) (xs bs : List Nat) (hown : Ow w base v xs) (hu : Sl w u bs)
    (hlen : xs.length + bs.length ≤ 140737488355328) (hbase : base ≤ w.heap.size) :
    ∃ v' w', (Builtin.append_ #[22, 22] ty #[v, u]).run Tryd.prog w = .ok v' w' ∧ Ow w' base v' (xs ++ bs) ∧ Touch w w' (fun k => base ≤ k ∧ v.ownBlock = some k) ∧ (v'.ownBlock = v.ownBlock ∨ v'.ownBlock = some w.heap.size) := by
  obtain ⟨i0, hi, hz0, hz1, hz2⟩ := info_parts Tryd.infoByte
  have hlen' : (xs ++ bs).length = xs.length + bs.length := List.length_append
  have key : ∀ (ad : Addr) (c : Nat), u = .slice (some ad) bs.length c → (∀ j x, (by8 bs)[j]? = some x → w.cell? (ad.add j) = some x) →
      ∃ v' w', (Builtin.append_ #[22, 22] ty #[v, u]).run Tryd.prog w = .ok v' w' ∧ Ow w' base v' (xs ++ bs) ∧ Touch w w' (fun k => base ≤ k ∧ v.ownBlock = some k) ∧ (v'.ownBlock = v.ownBlock ∨ v'.ownBlock = some w.heap.size) := by
    rintro ad c rfl hcell
    rcases hown with ⟨a, rfl, rfl⟩ | hown
    · by_cases hb : bs = []
      · subst hb
        refine ⟨.slice (some a) 0 0, w, ?_, .inl ⟨a, rfl, rfl⟩, Touch.refl _ _, .inl rfl⟩
        simp [Builtin.append_, run_underlying Tryd.underlying22, sizeOf, typeInfo, hi, Builtin.lenOf, storeCells, Builtin.firstCells, loadCells, loadCellsFrom]
      · have hp : 0 < bs.length := by cases bs; exact absurd rfl hb; simp
        obtain ⟨v', w', h1, h2, h3⟩ := run_append_arg_grows (P := Tryd.prog) w 22 ty 5 i0 (.int .u8 0) 1 1 Tryd.underlying22 hi hz0 hz1 hz2 rfl (by decide) a 0 0 [] rfl (fun j u hj => by simp at hj) ad bs.length c (by8 bs) (by rw [length_by8, Nat.mul_one]) hcell (by omega) (by unfold maxLen; simp at hlen; omega) (by simp at hlen; omega)
        have hblk : v'.ownBlock = some w.heap.size ∨ v' = .slice none 0 0 := by
          rcases h2.2 with ⟨rfl, h⟩ | ⟨g, cap, cur, rfl, hb2, hg, _⟩
          · omega
          · left
            have hlt := (Array.getElem?_eq_some_iff.1 hg).1
            have : g = w.heap.size := by
              rcases Nat.lt_or_ge g (w.heap.size + 1) with h | h
              · omega
              · exfalso
                have hs : w'.heap.size = w.heap.size + 1 := by
                  have hr := run_append_grow (P := Tryd.prog) w 22 ty 5 i0 (.int .u8 0) Tryd.underlying22 hi hz0 a 0 0 [] (by simp) (fun j u hj => by simp at hj) ad bs.length c (by8 bs) (by rw [length_by8, hz1, Nat.mul_one]) hcell (by omega) (by omega) (growslice_fits (by omega) (by rw [hz2]; omega))
                  rw [hr] at h1
                  injection h1 with h1 h5
                  rw [← h5]
                  simp
                omega
            subst this
            rfl
        refine ⟨v', w', h1, .inr ?_, (Touch.grown (S := fun k => base ≤ k ∧ (Value.slice (some a) 0 0).ownBlock = some k) h3 (fun k hk => by cases hk)), ?_⟩
        · simp only [Nat.zero_add, List.nil_append] at h2
          simpa using own_more h2 (fun i hi => by have := (h2.lt i hi).1; omega)
        · rcases hblk with h | h
          · exact .inr h
          · subst h
            have hl := h2.1
            rcases h2.2 with ⟨_, h⟩ | ⟨g, cap, cur, h, _⟩
            · omega
            · cases h
    · obtain ⟨v', w', h1, h2, h3, _, h5⟩ := run_append_own_at (P := Tryd.prog) w base 22 ty 5 i0 (.int .u8 0) 1 1 Tryd.underlying22 hi hz0 hz1 hz2 rfl (by decide) v xs.length (by8 xs) hown ad bs.length c (by8 bs)
        (by rw [length_by8, Nat.mul_one]) hcell (by8_one bs) (by unfold maxLen; omega) (by omega) hbase
      refine ⟨v', w', h1, .inr (by rw [hlen', by8_app]; exact h2), Touch.grown h3 (fun k hk => .inl ⟨(hown.lt k hk).1, hk⟩), h5⟩
  rcases hu with ⟨rfl, rfl⟩ | ⟨a, c, rfl, rfl⟩ | ⟨g, o, cap, rfl, hcap, hlt, hcell⟩
  · refine ⟨v, w, ?_, by simpa using hown, Touch.refl w _, .inl rfl⟩
    rcases hown with ⟨a, rfl, rfl⟩ | hown
    · simp [Builtin.append_, run_underlying Tryd.underlying22, sizeOf, typeInfo, hi, Builtin.lenOf, storeCells, Builtin.firstCells]
    · rcases hown.2 with ⟨rfl, h⟩ | ⟨g, cap, cur, rfl, _, _, hnc, _⟩
      · simp [Builtin.append_, run_underlying Tryd.underlying22, sizeOf, typeInfo, hi, Builtin.lenOf, Builtin.firstCells]
      · simp [Builtin.append_, run_underlying Tryd.underlying22, sizeOf, typeInfo, hi, Builtin.lenOf, Builtin.firstCells, hnc, storeCells]
  · exact key a c rfl (fun j u hj => by simp [by8] at hj)
  · exact key ⟨g, o, none⟩ cap rfl (fun j u hj => by rw [add_at]; exact hcell j u hj)

theorem wpl_append_ow {w : World} {ops : Array Oper} {rest : List Oper} {o : Oper} {a : Act} {Q : Exit → Act → World → Prop} (hgd : o.guard = none) (s x : Operand)
    (ho : o.op = .call { callee := .builtin .append, args := #[s, x], argTypes := #[22, 22] })
    (base : Nat) (v u : Value) (xs bs : List Nat) (hs : a.eval s = v) (hx : a.eval x = u) (hown : Ow w base v xs) (hu : Sl w u bs)
    (hlen : xs.length + bs.length ≤ 140737488355328) (hbase : base ≤ w.heap.size)
    (h : ∀ v' w', Ow w' base v' (xs ++ bs) → Touch w w' (fun k => base ≤ k ∧ v.ownBlock = some k) → (v'.ownBlock = v.ownBlock ∨ v'.ownBlock = some w.heap.size) → wpList Tryd.prog ops Q rest (a.put o.dst v') w') :
    wpList Tryd.prog ops Q (o :: rest) a w := by
  refine wpList_plain hgd fun K hK => ?_
  obtain ⟨v', w', hr, h2, h3, h5⟩ := append_ow w o.type base v u xs bs hown hu hlen hbase
  unfold Oper.wp execOp
  simp only [ho, resolve, invoke, builtin, Sem.run_bind, Sem.run_pure, Result.andThen_ok, List.map_toArray, List.map_cons, List.map_nil, hs, hx, hr]
  exact hK _ _ (h v' w' h2 h3 h5)

/-- the slice of one byte that append's argument is -/
theorem Sl.one (w : World) (c : Nat) : Sl (w.alloc (.cells #[.int .u8 (c : Int)] 5)) (.slice (some ⟨w.heap.size, 0, none⟩) 1 1) [c] := by
  refine .inr (.inr ⟨w.heap.size, 0, 1, rfl, by simp, by simp, fun j u hj => ?_⟩)
  rw [← add_at]
  exact cell_one_new w (.int .u8 (c : Int)) 5 j u hj
theorem Sl.made (w : World) (bs : List Nat) : Sl (w.alloc (.cells (by8 bs).toArray 5)) (.slice (some ⟨w.heap.size, 0, none⟩) bs.length bs.length) bs := by
  refine .inr (.inr ⟨w.heap.size, 0, bs.length, rfl, Nat.le_refl _, by simp, fun j u hj => ?_⟩)
  rw [Nat.zero_add, (Cel.made w 5 (by8 bs).toArray).cell j]
  simpa using hj

theorem conv_c (w : World) (v : Value) (xs : List Nat) (h : Sl w v xs) : (convert 22 9 v).run Tryd.prog w = .ok (.string (strOfNums (xs.map Int.ofNat))) w := by
  rcases h with ⟨rfl, rfl⟩ | ⟨a, c, rfl, rfl⟩ | ⟨g, o, cap, rfl, h2, h3, h4⟩
  · exact run_convert_bytes_nil (P := Tryd.prog) w 22 5 Tryd.underlying22 Tryd.underlying5 0 0 _ Tryd.underlying9
  · rw [run_convert_bytes_string w 22 9 5 (some a) 0 c Tryd.underlying22 Tryd.underlying5 Tryd.underlying9, run_bytesToString w a 0 c [] (by simpa using run_loadCells_list (P := Tryd.prog) w a [] (fun j v hj => by simp at hj))]
    rfl
  · refine run_convert_bytes_arg (P := Tryd.prog) w 22 5 Tryd.underlying22 Tryd.underlying5 g o xs.length cap (xs.map Int.ofNat) (by simp) ?_ _ Tryd.underlying9
    intro i hi
    refine h4 i _ ?_
    unfold by8
    rw [List.getElem?_map, List.getElem?_eq_getElem hi]
    simp [List.getD, hi]

/-- SameBytes of two readings -/
theorem same_any (w : World) (v u : Value) (xs ys : List Nat) (h1 : Sl w v xs) (h2 : Sl w u ys) :
    Calls Tryd.prog 21 #[v, u] w fun e w' => (∃ b, e = .returned (.bool b) ∧ (xs = ys → b = true)) ∧ w = w' := by
  have c1 := conv_c w v xs h1
  have c2 := conv_c w u ys h2
  clear h1 h2
  by_cases he : strOfNums (xs.map Int.ofNat) = strOfNums (ys.map Int.ofNat)
  · rw [he] at c1
    generalize strOfNums (ys.map Int.ofNat) = s at *
    clear he
    go_enter Tryd.func21, Tryd.ntmps21
    go_wp2
    go_ret
    exact ⟨⟨true, rfl, fun _ => rfl⟩, rfl⟩
  · have hn : xs ≠ ys := fun e => he (by rw [e])
    have hn2 : (xs = ys) = False := eq_false hn
    generalize strOfNums (ys.map Int.ofNat) = s at *
    generalize strOfNums (xs.map Int.ofNat) = t at *
    go_enter Tryd.func21, Tryd.ntmps21
    go_wp2
    go_ret
    exact ⟨⟨_, rfl, fun h => absurd h hn⟩, rfl⟩
theorem same_c (w : World) (v u : Value) (xs : List Nat) (h1 : Sl w v xs) (h2 : Sl w u xs) :
    Calls Tryd.prog 21 #[v, u] w fun e w' => e = .returned (.bool true) ∧ w = w' := by
  refine (same_any w v u xs xs h1 h2).mono ?_
  rintro e w' ⟨⟨b, rfl, hb⟩, rfl⟩
  rw [hb rfl]
  exact ⟨rfl, rfl⟩
end Go.Proofs.YtpkjogjdacogeaaDoor
