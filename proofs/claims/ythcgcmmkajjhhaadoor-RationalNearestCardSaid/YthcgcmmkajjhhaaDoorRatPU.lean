/- The table of usual steps: what the listed variable gives a walk. -/
import Derived.Test.YthcgcmmkajjhhaaDoorRatPM
import Derived.Test.YthcgcmmkajjhhaaDoorRatV
import Derived.Test.YthcgcmmkajjhhaaDoorRows
import Derived.LaidMore
import Derived.LaidLaws
import Derived.OpenShut
import Derived.ChangeArms
import Derived.Lib.LaidTab
namespace Go.Proofs.YthcgcmmkajjhhaaDoor
open Go.ChangeShapes Go.WideShapes Go.RowKit

def tabA : List Int := [24000, 24, 25, 30000, 30, 50, 60000, 60]
def tabB : List Int := [1001, 1, 1, 1001, 1, 1, 1001, 1]
def tabC : List Int := [2002, 2000, 1920, 8008, 1600, 960, 4004, 800]
def tabD : List Int := [1, 1, 1, 5, 1, 1, 5, 1]
def ta (i : Nat) : Int := tabA.getD i 0
def tb (i : Nat) : Int := tabB.getD i 0
def tc (i : Nat) : Int := tabC.getD i 0
def td (i : Nat) : Int := tabD.getD i 0
theorem tab_step : ∀ i : Fin 8, RM.Step (ta i.val) (tb i.val) 48000 1 (tc i.val) (td i.val) := by
  have h : ∀ i : Fin 8, (1 ≤ tc i.val ∧ tc i.val ≤ 4611686018427387904 ∧ 1 ≤ td i.val ∧ td i.val ≤ 4611686018427387904 ∧ 1 ≤ 48000 * tb i.val / tc i.val ∧ tc i.val * (48000 * tb i.val / tc i.val) = 48000 * tb i.val ∧ td i.val * (48000 * tb i.val / tc i.val) = 1 * ta i.val) := by decide +kernel
  intro i
  obtain ⟨h1, h2, h3, h4, h5, h6, h7⟩ := h i
  exact ⟨h1, h2, h3, h4, _, h5, h6, h7⟩
theorem tab_bd : ∀ i : Fin 8, -9223372036854775808 ≤ ta i.val ∧ ta i.val ≤ 9223372036854775807 := by decide +kernel

theorem two_of {α : Type} {l : List α} (h : l.length = 2) : ∃ a b, l = [a, b] := by
  match l, h with
  | [a, b], _ => exact ⟨a, b, rfl⟩
theorem four_of {α : Type} {l : List α} (h : l.length = 4) : ∃ a b c d, l = [a, b, c, d] := by
  match l, h with
  | [a, b, c, d], _ => exact ⟨a, b, c, d, rfl⟩

section
variable {H : Type} {enc : TypeId × Value → H} {w : World} {base : Nat} {sp : Nat → Bool} {held : Bool}
set_option maxRecDepth 100000 in
theorem rat_cells {fuel : Nat} {cs : List Value} {a b : Int} {p : List MemPlace} (h : DataW.trod enc Tryd.prog w base sp held fuel 23 cs = some (.agg [.lit (.int .i64 a), .lit (.int .i64 b)], p)) : cs = [.int .i64 a, .int .i64 b] := by
  obtain ⟨xs, n, rfl, hx, hl, hxl, hf⟩ := DataW.trod_struct Tryd.underlying23 h
  have cR : Tryd.prog.cellsOf 23 = 2 := by kernel_rfl
  have cI : Tryd.prog.cellsOf 2 = 1 := by kernel_rfl
  rw [cR] at hl
  simp only [Prod.mk.injEq, DataW.agg.injEq] at hx
  have hxl2 : xs.length = 2 := hxl
  have h0 := hf 0 _ rfl
  have h1 := hf 1 _ rfl
  obtain ⟨x0, x1, rfl⟩ := two_of hxl2
  obtain ⟨c0, c1, rfl⟩ := two_of hl
  clear hf hxl
  simp [cI] at h0 h1
  simp only [List.map_cons, List.map_nil, List.cons.injEq, and_true] at hx
  obtain ⟨z0, e0, f0, _⟩ := DataW.trod_int Tryd.underlying2 h0
  obtain ⟨z1, e1, f1, _⟩ := DataW.trod_int Tryd.underlying2 h1
  subst f0 f1
  simp at hx e0 e1
  rw [e0, e1, hx.1.1, hx.1.2]

/-- the cells of one row of the table -/
def rowC (a b c d : Int) : List Value := [.int .i64 a, .int .i64 b, .int .i64 c, .int .i64 d]
set_option maxRecDepth 100000 in
theorem pair_cells {fuel : Nat} {cs : List Value} {a b c d : Int} {p : List MemPlace} (h : DataW.trod enc Tryd.prog w base sp held fuel 73 cs = some (.agg [.agg [.lit (.int .i64 a), .lit (.int .i64 b)], .agg [.lit (.int .i64 c), .lit (.int .i64 d)]], p)) : cs = rowC a b c d := by
  obtain ⟨xs, n, rfl, hx, hl, hxl, hf⟩ := DataW.trod_array Tryd.underlying73 h
  have cR : Tryd.prog.cellsOf 23 = 2 := by kernel_rfl
  have cP : Tryd.prog.cellsOf 73 = 4 := by kernel_rfl
  rw [cP] at hl
  rw [cR] at hf
  simp only [Prod.mk.injEq, DataW.agg.injEq] at hx
  have h0 := hf 0 (by decide)
  have h1 := hf 1 (by decide)
  obtain ⟨x0, x1, rfl⟩ := two_of hxl
  obtain ⟨c0, c1, c2, c3, rfl⟩ := four_of hl
  clear hf hxl
  simp at h0 h1
  simp only [List.map_cons, List.map_nil, List.cons.injEq, and_true] at hx
  obtain ⟨y0, q0⟩ := x0
  obtain ⟨y1, q1⟩ := x1
  simp only at hx
  obtain ⟨⟨rfl, rfl⟩, _⟩ := hx
  have k0 := rat_cells h0
  have k1 := rat_cells h1
  simp only [List.cons.injEq, and_true] at k0 k1
  unfold rowC
  rw [k0.1, k0.2, k1.1, k1.2]
/-- the cells of the table -/
def usualC : List Value := (List.range 8).flatMap fun i => rowC (ta i) (tb i) (tc i) (td i)
set_option maxRecDepth 100000 in
theorem usual_cells {fuel : Nat} {cs : List Value} {p : List MemPlace} (h : DataW.trod enc Tryd.prog w base sp held fuel 74 cs = some (Rows.laid_cutroom_rational_usual, p)) : cs = usualC := by
  obtain ⟨xs, n, rfl, hx, hl, hxl, hf⟩ := DataW.trod_array Tryd.underlying74 h
  have cP : Tryd.prog.cellsOf 73 = 4 := by kernel_rfl
  have cU : Tryd.prog.cellsOf 74 = 32 := by kernel_rfl
  rw [cU] at hl
  rw [cP] at hf
  have hx1 := congrArg Prod.fst hx
  have hxs : xs.map (·.1) = (List.range 8).map fun i => (.agg [.agg [.lit (.int .i64 (ta i)), .lit (.int .i64 (tb i))], .agg [.lit (.int .i64 (tc i)), .lit (.int .i64 (td i))]] : DataW H) := by
    have e : Rows.laid_cutroom_rational_usual (H := H) = .agg ((List.range 8).map fun i => (.agg [.agg [.lit (.int .i64 (ta i)), .lit (.int .i64 (tb i))], .agg [.lit (.int .i64 (tc i)), .lit (.int .i64 (td i))]] : DataW H)) := rfl
    rw [e] at hx1
    injection hx1 with hx1
    exact hx1.symm
  have key : ∀ i, i < 8 → (cs.drop (i * 4)).take 4 = rowC (ta i) (tb i) (tc i) (td i) := by
    intro i hi
    have h1 := hf i hi
    have h2 : (xs.map (·.1))[i]? = some (.agg [.agg [.lit (.int .i64 (ta i)), .lit (.int .i64 (tb i))], .agg [.lit (.int .i64 (tc i)), .lit (.int .i64 (td i))]] : DataW H) := by
      rw [hxs, List.getElem?_map, List.getElem?_range hi]; rfl
    rw [List.getElem?_map] at h2
    cases hxi : xs[i]? with
    | none => rw [hxi] at h2; cases h2
    | some x =>
      rw [hxi] at h1 h2
      simp only [Option.map_some, Option.some.injEq] at h2
      obtain ⟨y, q⟩ := x
      simp only at h2
      subst h2
      exact pair_cells h1
  have split : ∀ (k : Nat) (l : List Value), l.length = k * 4 → l = (List.range k).flatMap fun i => (l.drop (i * 4)).take 4 := by
    intro k
    induction k with
    | zero => intro l hl; simp at hl; simp [hl]
    | succ k ih =>
      intro l hl
      have e := ih (l.drop 4) (by rw [List.length_drop]; omega)
      rw [List.range_succ_eq_map, List.flatMap_cons, List.flatMap_map]
      have e2 : l = l.take 4 ++ l.drop 4 := (List.take_append_drop 4 l).symm
      conv => lhs; rw [e2, e]
      simp only [Nat.zero_mul, List.drop_zero, List.drop_drop]
      congr 2
      funext i
      congr 2
      show 4 + i * 4 = (i + 1) * 4
      omega
  rw [split 8 cs (by omega)]
  unfold usualC
  rw [List.flatMap_def, List.flatMap_def]
  congr 1
  apply List.map_congr_left
  intro i hi
  exact key i (List.mem_range.1 hi)
end

/-- the table as one value -/
def usualV : Array Value := #[.agg #[.agg #[.int .i64 24000, .int .i64 1001], .agg #[.int .i64 2002, .int .i64 1]]]
end Go.Proofs.YthcgcmmkajjhhaaDoor
