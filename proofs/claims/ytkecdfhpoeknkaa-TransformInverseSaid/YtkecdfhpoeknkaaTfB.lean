/- The reference's Basis. -/
import Derived.Test.YtkecdfhpoeknkaaTfW
import Derived.Test.YtkecdfhpoeknkaaTfM
namespace Go.Proofs.Ytkecdfhpoeknkaa
set_option linter.unusedVariables false
set_option linter.unusedSimpArgs false
open Go.RowKit

/-- the matrix's cells -/
def tabV : List Value := TF.tab.flatMap fun r => r.map (Value.int .i64)

theorem tab_at (i k : Nat) (hi : i < 8) (hk : k < 8) : tabV.toArray[i * 8 + k]? = some (.int .i64 (TF.tm i k)) := by
  have := (by decide +kernel : ∀ i k : Fin 8, (TF.tab.flatMap fun r => r)[i.1 * 8 + k.1]? = some (TF.tm i.1 k.1)) ⟨i, hi⟩ ⟨k, hk⟩
  have e : tabV = (TF.tab.flatMap fun r => r).map (Value.int .i64) := by rfl
  rw [e]
  simp only [List.getElem?_toArray, List.getElem?_map]
  simp only at this
  rw [this]
  rfl

/-- a whole value is stored into a variable that was made just before -/
theorem wpl_store_new {P : Program} {ops : Array Oper} {rest : List Oper} {o : Oper} {a : Act} {w : World} {Q : Exit → Act → World → Prop} (hgd : o.guard = none) (ty : TypeId) (x y : Operand) (ho : o.op = .store ty x y)
    (cells : Array Value) (t : TypeId) (old : Array Value) (hx : a.eval x = .pointer (some ⟨w.heap.size, 0, none⟩)) (hy : a.eval y = .agg cells)
    (hi : (P.info? ty).map (·.size) = some cells.size) (hold : old.size = cells.size) (h1 : cells.all (·.oneCell') = true)
    (h : ∀ w2, (∀ j, World.cell? w2 ⟨w.heap.size, j, none⟩ = cells[j]?) → Cel w2 w.heap.size t cells → Below w.heap.size w w2 → wpList P ops Q rest (a.put o.dst undef) w2) : wpList P ops Q (o :: rest) a (w.alloc (.cells old t)) := by
  have hc : Cel ((w.alloc (.cells old t)).setRow w.heap.size cells) w.heap.size t cells := setRow_heap _ _ _ _ _ _ (heap_alloc_new _ _)
  refine wpList_store_row hgd ty x y ho w.heap.size cells hx hy t old (heap_alloc_new _ _) hi hold h1 (h _ (fun j => hc.cell j) hc ?_)
  have b := (Below.refl w.heap.size w).alloc (Nat.le_refl _) (.cells old t)
  refine ⟨b.os, b.tape, b.output, ?_, fun j hj => ?_⟩
  · rw [setRow_size]; exact b.size
  · rw [setRow_other _ _ _ _ (by omega)]; exact b.block j hj

set_option maxRecDepth 20000 in
set_option maxHeartbeats 1000000 in
theorem basis_in (i k : Nat) (hi : i < 8) (hk : k < 8) (w : World) :
    Calls Try.prog 13 #[.int .i64 (i : Int), .int .i64 (k : Int)] w fun e w' => e = .returned (.int .i64 (TF.tm i k)) ∧ Below w.heap.size w w' := by
  have d1 : decide ((i : Int) < 0) = false := by simp
  have d2 : decide ((7 : Int) < i) = false := by simp; omega
  have d3 : decide ((k : Int) < 0) = false := by simp
  have d4 : decide ((7 : Int) < k) = false := by simp; omega
  have HT := Lib.hid (tab_at i k hi hk)
  go_enter Try.func13, Try.ntmps13
  go_wp2_with (refine wpl_store_new rfl 38 _ _ rfl tabV.toArray 38 _ rfl rfl (by kernel_rfl) (by kernel_rfl) (by kernel_rfl) ?_; intro w2 hc hcel hb; have hc2 := (hc (i * 8 + k)).trans HT.out; have HB := Lib.hid hb; clear hc hcel hb)
  go_ret
  exact ⟨rfl, HB.out⟩

/-- outside: 0 -/
theorem basis_out (i k : Int) (h : ¬ (0 ≤ i ∧ i < 8 ∧ 0 ≤ k ∧ k < 8)) (w : World) :
    Calls Try.prog 13 #[.int .i64 i, .int .i64 k] w fun e w' => e = .returned (.int .i64 0) ∧ Below w.heap.size w w' := by
  have go : ∀ b1 b2 b3 b4, decide (i < 0) = b1 → (b1 = false → decide (7 < i) = b2) → (b1 = false → b2 = false → decide (k < 0) = b3) → (b1 = false → b2 = false → b3 = false → decide (7 < k) = b4) →
      (b1 = true ∨ (b1 = false ∧ b2 = true) ∨ (b1 = false ∧ b2 = false ∧ b3 = true) ∨ (b1 = false ∧ b2 = false ∧ b3 = false ∧ b4 = true)) →
      Calls Try.prog 13 #[.int .i64 i, .int .i64 k] w fun e w' => e = .returned (.int .i64 0) ∧ Below w.heap.size w w' := by
    intro b1 b2 b3 b4 h1 h2 h3 h4 h5
    clear h
    rcases h5 with rfl | ⟨rfl, rfl⟩ | ⟨rfl, rfl, rfl⟩ | ⟨rfl, rfl, rfl, rfl⟩
    all_goals
      simp only [forall_const, Bool.true_eq_false, false_implies] at h2 h3 h4
      go_enter Try.func13, Try.ntmps13
      go_wp2
      go_ret
      exact ⟨rfl, Below.refl _ _⟩
  refine go _ _ _ _ rfl (fun _ => rfl) (fun _ _ => rfl) (fun _ _ _ => rfl) ?_
  simp
  omega

/-- the matrix at any two integers -/
def tz (i k : Int) : Int := if 0 ≤ i ∧ i < 8 ∧ 0 ≤ k ∧ k < 8 then TF.tm i.toNat k.toNat else 0
theorem tz_in (i k : Nat) (hi : i < 8) (hk : k < 8) : tz i k = TF.tm i k := by unfold tz; rw [if_pos (by omega), Int.toNat_natCast, Int.toNat_natCast]
theorem tm_bd (i k : Nat) (hi : i < 8) (hk : k < 8) : -12 ≤ TF.tm i k ∧ TF.tm i k ≤ 12 := by
  have := (by decide : ∀ i k : Fin 8, -12 ≤ TF.tm i.1 k.1 ∧ TF.tm i.1 k.1 ≤ 12) ⟨i, hi⟩ ⟨k, hk⟩
  exact this
theorem tz_bd (i k : Int) : -12 ≤ tz i k ∧ tz i k ≤ 12 := by
  unfold tz
  split
  · exact tm_bd _ _ (by omega) (by omega)
  · decide
theorem basis_c (i k : Int) (w : World) :
    Calls Try.prog 13 #[.int .i64 i, .int .i64 k] w fun e w' => e = .returned (.int .i64 (tz i k)) ∧ Below w.heap.size w w' := by
  by_cases h : 0 ≤ i ∧ i < 8 ∧ 0 ≤ k ∧ k < 8
  · obtain ⟨a, rfl⟩ := Int.eq_ofNat_of_zero_le h.1
    obtain ⟨b, rfl⟩ := Int.eq_ofNat_of_zero_le h.2.2.1
    have ha : a < 8 := by omega
    have hb : b < 8 := by omega
    rw [tz_in a b ha hb]
    exact basis_in a b ha hb w
  · unfold tz
    rw [if_neg h]
    exact basis_out i k h w

/-- the sum of the first k values -/
def sm (f : Nat → Int) : Nat → Int
  | 0 => 0
  | k + 1 => sm f k + f k
theorem sm_s8 (f : Nat → Int) : sm f 8 = TF.s8 f := by simp [sm, TF.s8]
theorem sm_bd (f : Nat → Int) (B : Int) (h : ∀ k, -B ≤ f k ∧ f k ≤ B) : ∀ k : Nat, -(B * k) ≤ sm f k ∧ sm f k ≤ B * k
  | 0 => by simp [sm]
  | k + 1 => by
    have ih := sm_bd f B h k
    have hk := h k
    have e : B * ((k + 1 : Nat) : Int) = B * k + B := by rw [Int.natCast_add, Int.mul_add]; simp
    rw [e]
    simp only [sm]
    omega
def nz (i : Int) : Int := TF.s8 fun k => tz i k * tz i k
theorem sq_bd (x : Int) (h : -12 ≤ x ∧ x ≤ 12) : -144 ≤ x * x ∧ x * x ≤ 144 := by
  have a := TF.term_bd x x 12 h
  have b : ((x.natAbs : Nat) : Int) * 12 ≤ 12 * 12 := Int.mul_le_mul_of_nonneg_right (by omega) (by decide)
  omega
set_option maxHeartbeats 1000000 in
theorem norm_c (i : Int) (w : World) :
    Calls Try.prog 15 #[.int .i64 i] w fun e w' => e = .returned (.int .i64 (nz i)) ∧ Below w.heap.size w w' := by
  obtain ⟨f, hf⟩ : ∃ f : Nat → Int, f = fun k : Nat => tz i k * tz i k := ⟨_, rfl⟩
  have hbd := sm_bd f 144 (fun k => by rw [hf]; exact sq_bd _ (tz_bd i k))
  have hz : nz i = sm f 8 := by rw [sm_s8, hf]; rfl
  rw [hz]
  have HB := Lib.hid hbd
  have HF := Lib.hid hf
  clear hbd hf hz
  go_enter Try.func15, Try.ntmps15
  go_wp2_with fail
  go_loopw [3, 4] (fun a b wr => ∃ k : Nat, k ≤ 8 ∧ a = .int .i64 (sm f k) ∧ b = .int .i64 (k : Int) ∧ Below w.heap.size w wr) (fun _ b _ => 8 - (intOf b).toNat)
  case atStart => exact ⟨0, by decide, rfl, rfl, Below.refl _ _⟩
  case round =>
    obtain ⟨k, hk, rfl, rfl, hb⟩ := hrel
    have HW := Lib.hid hb
    clear hb
    by_cases hlt : k < 8
    · have d1 : decide ((k : Int) < 8) = true := by simp; omega
      have h1 := HB.out k
      have h2 := HB.out (k + 1)
      have t1 := tz_bd i k
      have t2 := sq_bd _ t1
      have hs : sm f (k + 1) = sm f k + tz i k * tz i k := by rw [HF.out]; rfl
      have HS := Lib.hid hs
      clear hs
      have HT := Lib.hid (And.intro h1 t2)
      generalize ht : tz i k = t at *
      have hb1 := fun w => basis_c i k w
      rw [ht] at hb1
      go_wp2_with fail
      refine (hb1 _).mono ?_
      rintro e w1 ⟨rfl, hw1⟩
      have HW1 := Lib.hid (HW.out.trans (hw1.mono HW.out.size))
      clear hw1
      go_wp2_with fail
      refine (hb1 _).mono ?_
      rintro e w2 ⟨rfl, hw2⟩
      have HW2 := Lib.hid (HW1.out.trans (hw2.mono HW1.out.size))
      clear hw2 hb1
      have h1 := HT.out.1
      have t2 := HT.out.2
      go_wp2_with fail
      go_roundw
      case rel => exact ⟨k + 1, by omega, by rw [HS.out], congrArg (Value.int .i64) (by omega), HW2.out⟩
      case measure => simp [intOf]; omega
    · have e : k = 8 := by omega
      subst e
      go_wp2
      go_ret
      exact ⟨rfl, HW.out⟩

end Go.Proofs.Ytkecdfhpoeknkaa
