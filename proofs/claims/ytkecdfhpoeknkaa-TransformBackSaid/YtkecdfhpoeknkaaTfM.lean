/- The transform of 8 by 8 blocks, in plain mathematics: the matrix, both directions, each undoes the other, the bound, the energy, the transpose, the nearest block. Imports nothing of the program. -/
import Derived.Lib.ItoaNum
namespace Go.Proofs.Ytkecdfhpoeknkaa.TF

def tab : List (List Int) := [[8, 8, 8, 8, 8, 8, 8, 8], [12, 10, 6, 3, -3, -6, -10, -12], [8, 4, -4, -8, -8, -4, 4, 8], [10, -3, -12, -6, 6, 12, 3, -10], [8, -8, -8, 8, 8, -8, -8, 8], [6, -12, 3, 10, -10, -3, 12, -6], [4, -8, 8, -4, -4, 8, -8, 4], [3, -6, 10, -12, 12, -10, 6, -3]]
/-- element k of row i of the matrix; 0 where there is none -/
def tm (i k : Nat) : Int := (tab.getD i []).getD k 0
def s8 (f : Nat → Int) : Int := f 0 + f 1 + f 2 + f 3 + f 4 + f 5 + f 6 + f 7
def nm (i : Nat) : Int := s8 fun k => tm i k * tm i k
def mm (i : Nat) : Int := 739840 / nm i
def ab (i k : Nat) : Int := ((tm i k).natAbs : Int)

theorem s8_congr {f g : Nat → Int} (h : ∀ k, k < 8 → f k = g k) : s8 f = s8 g := by
  unfold s8
  rw [h 0 (by decide), h 1 (by decide), h 2 (by decide), h 3 (by decide), h 4 (by decide), h 5 (by decide), h 6 (by decide), h 7 (by decide)]
theorem s8_add (f g : Nat → Int) : s8 (fun k => f k + g k) = s8 f + s8 g := by simp only [s8]; omega
theorem s8_sub (f g : Nat → Int) : s8 (fun k => f k - g k) = s8 f - s8 g := by simp only [s8]; omega
theorem s8_mul (c : Int) (f : Nat → Int) : s8 (fun k => c * f k) = c * s8 f := by unfold s8; simp only [Int.mul_add]
theorem s8_mul_r (c : Int) (f : Nat → Int) : s8 (fun k => f k * c) = s8 f * c := by unfold s8; simp only [Int.add_mul]
theorem s8_comm (f : Nat → Nat → Int) : s8 (fun i => s8 (fun j => f i j)) = s8 (fun j => s8 (fun i => f i j)) := by simp only [s8]; omega
theorem s8_le {f g : Nat → Int} (h : ∀ k, k < 8 → f k ≤ g k) : s8 f ≤ s8 g := by
  unfold s8
  have := h 0 (by decide); have := h 1 (by decide); have := h 2 (by decide); have := h 3 (by decide); have := h 4 (by decide); have := h 5 (by decide); have := h 6 (by decide); have := h 7 (by decide)
  omega
theorem s8_pick (c : Int) (k : Nat) (h : k < 8) (v : Nat → Int) : s8 (fun l => (if k = l then c else 0) * v l) = c * v k := by
  have e : ∀ l, (if k = l then c else 0) * v l = if k = l then c * v l else 0 := by intro l; split <;> simp
  simp only [e]
  unfold s8
  rcases (by omega : k = 0 ∨ k = 1 ∨ k = 2 ∨ k = 3 ∨ k = 4 ∨ k = 5 ∨ k = 6 ∨ k = 7) with rfl | rfl | rfl | rfl | rfl | rfl | rfl | rfl <;> simp

theorem all8 {p : Nat → Prop} (h : p 0 ∧ p 1 ∧ p 2 ∧ p 3 ∧ p 4 ∧ p 5 ∧ p 6 ∧ p 7) (k : Nat) (hk : k < 8) : p k := by
  obtain ⟨h0, h1, h2, h3, h4, h5, h6, h7⟩ := h
  rcases (by omega : k = 0 ∨ k = 1 ∨ k = 2 ∨ k = 3 ∨ k = 4 ∨ k = 5 ∨ k = 6 ∨ k = 7) with rfl | rfl | rfl | rfl | rfl | rfl | rfl | rfl <;> assumption
/-- different rows are orthogonal -/
theorem rows (i j : Nat) (hi : i < 8) (hj : j < 8) : s8 (fun k => tm i k * tm j k) = if i = j then nm i else 0 := by
  have := (by decide : ∀ i : Fin 8, ∀ j : Fin 8, s8 (fun k => tm i.1 k * tm j.1 k) = if i.1 = j.1 then nm i.1 else 0) ⟨i, hi⟩ ⟨j, hj⟩
  exact this
/-- so are different columns, weighted -/
theorem cols (k l : Nat) (hk : k < 8) (hl : l < 8) : s8 (fun i => tm i k * mm i * tm i l) = if k = l then 739840 else 0 := by
  have := (by decide : ∀ i : Fin 8, ∀ j : Fin 8, s8 (fun k => tm k i.1 * mm k * tm k j.1) = if i.1 = j.1 then 739840 else 0) ⟨k, hk⟩ ⟨l, hl⟩
  exact this
theorem nm_mm (i : Nat) (hi : i < 8) : nm i * mm i = 739840 := by
  have := (by decide : ∀ i : Fin 8, nm i.1 * mm i.1 = 739840) ⟨i, hi⟩
  exact this
theorem ab_le (i : Nat) (hi : i < 8) : s8 (ab i) ≤ 64 := by
  have := (by decide : ∀ i : Fin 8, s8 (ab i.1) ≤ 64) ⟨i, hi⟩
  exact this
theorem mm_pos (i : Nat) (hi : i < 8) : 1280 ≤ mm i ∧ mm i ≤ 2312 := by
  have := (by decide : ∀ i : Fin 8, 1280 ≤ mm i.1 ∧ mm i.1 ≤ 2312) ⟨i, hi⟩
  exact this

/-- one dimension: the weighted columns undo the rows -/
theorem inv1 (v : Nat → Int) (l : Nat) (hl : l < 8) : s8 (fun j => tm j l * mm j * s8 (fun m => tm j m * v m)) = 739840 * v l := by
  have e1 : ∀ j, tm j l * mm j * s8 (fun m => tm j m * v m) = s8 (fun m => tm j l * mm j * tm j m * v m) := by
    intro j
    rw [← s8_mul]
    apply s8_congr
    intro m _
    rw [Int.mul_assoc (tm j l * mm j)]
  simp only [e1]
  rw [s8_comm]
  have e2 : s8 (fun m => s8 (fun j => tm j l * mm j * tm j m * v m)) = s8 (fun m => (if l = m then 739840 else 0) * v m) := by
    apply s8_congr
    intro m hm
    rw [s8_mul_r, cols l m hl hm]
  rw [e2, s8_pick _ _ hl]
/-- and the rows undo the weighted columns -/
theorem fwd1 (v : Nat → Int) (i : Nat) (hi : i < 8) : s8 (fun k => tm i k * s8 (fun m => tm m k * mm m * v m)) = 739840 * v i := by
  have e1 : ∀ k, tm i k * s8 (fun m => tm m k * mm m * v m) = s8 (fun m => tm i k * tm m k * (mm m * v m)) := by
    intro k
    rw [← s8_mul]
    apply s8_congr
    intro m _
    simp only [Int.mul_assoc]
  simp only [e1]
  rw [s8_comm]
  have e2 : s8 (fun m => s8 (fun k => tm i k * tm m k * (mm m * v m))) = s8 (fun m => (if i = m then nm i else 0) * (mm m * v m)) := by
    apply s8_congr
    intro m hm
    rw [s8_mul_r, rows i m hi hm]
  rw [e2, s8_pick _ _ hi (fun m => mm m * v m), ← Int.mul_assoc, nm_mm i hi]

/-- the transform of the rows, and of the block -/
def fr (x : Nat → Nat → Int) (k j : Nat) : Int := s8 fun l => tm j l * x k l
def fw (x : Nat → Nat → Int) (i j : Nat) : Int := s8 fun k => tm i k * fr x k j
/-- the sums of the way back -/
def ir (y : Nat → Nat → Int) (i l : Nat) : Int := s8 fun j => tm j l * mm j * y i j
def iv (y : Nat → Nat → Int) (k l : Nat) : Int := s8 fun i => tm i k * mm i * ir y i l
/-- the nearest integer, a half rounded up -/
def near (s : Int) : Int := (s + 273681612800) / 547363225600

theorem fw_congr {x x' : Nat → Nat → Int} (h : ∀ k, k < 8 → ∀ l, l < 8 → x k l = x' k l) (i j : Nat) : fw x i j = fw x' i j := by
  unfold fw fr
  exact s8_congr fun k hk => by rw [s8_congr fun l hl => by rw [h k hk l hl]]
theorem iv_congr {x x' : Nat → Nat → Int} (h : ∀ k, k < 8 → ∀ l, l < 8 → x k l = x' k l) (i j : Nat) : iv x i j = iv x' i j := by
  unfold iv ir
  exact s8_congr fun k hk => by rw [s8_congr fun l hl => by rw [h k hk l hl]]

/-- exchanging the two sums -/
theorem fw_swap (x : Nat → Nat → Int) (i j : Nat) : fw x i j = s8 fun l => tm j l * s8 fun k => tm i k * x k l := by
  unfold fw fr
  have e1 : ∀ k, tm i k * s8 (fun l => tm j l * x k l) = s8 (fun l => tm j l * (tm i k * x k l)) := by
    intro k
    rw [← s8_mul]
    apply s8_congr
    intro l _
    rw [← Int.mul_assoc, ← Int.mul_assoc, Int.mul_comm (tm i k)]
  simp only [e1]
  rw [s8_comm]
  apply s8_congr
  intro l _
  rw [s8_mul]
theorem iv_swap (y : Nat → Nat → Int) (k l : Nat) : iv y k l = s8 fun j => tm j l * mm j * s8 fun i => tm i k * mm i * y i j := by
  unfold iv ir
  have e1 : ∀ i, tm i k * mm i * s8 (fun j => tm j l * mm j * y i j) = s8 (fun j => tm j l * mm j * (tm i k * mm i * y i j)) := by
    intro i
    rw [← s8_mul]
    apply s8_congr
    intro j _
    ac_rfl
  simp only [e1]
  rw [s8_comm]
  apply s8_congr
  intro j _
  rw [s8_mul]
/-- transposing a block transposes its transform, both ways -/
theorem fw_t (x : Nat → Nat → Int) (i j : Nat) : fw (fun k l => x l k) i j = fw x j i := by
  rw [fw_swap]
  rfl
theorem iv_t (y : Nat → Nat → Int) (i j : Nat) : iv (fun k l => y l k) i j = iv y j i := by
  rw [iv_swap]
  rfl
/-- the way back undoes the transform -/
theorem iv_fw (x : Nat → Nat → Int) (k l : Nat) (hk : k < 8) (hl : l < 8) : iv (fw x) k l = 547363225600 * x k l := by
  unfold iv
  have e1 : ∀ i, i < 8 → tm i k * mm i * ir (fw x) i l = tm i k * mm i * s8 (fun m => tm i m * (739840 * x m l)) := by
    intro i _
    congr 1
    unfold ir
    have e2 : ∀ j, tm j l * mm j * fw x i j = s8 (fun m => tm i m * (tm j l * mm j * fr x m j)) := by
      intro j
      unfold fw
      rw [← s8_mul]
      apply s8_congr
      intro m _
      rw [← Int.mul_assoc, ← Int.mul_assoc, Int.mul_comm (tm i m)]
    simp only [e2]
    rw [s8_comm]
    apply s8_congr
    intro m _
    rw [s8_mul]
    congr 1
    exact inv1 (fun n => x m n) l hl
  rw [s8_congr e1, inv1 (fun m => 739840 * x m l) k hk, ← Int.mul_assoc]
  rfl
/-- and the transform undoes the way back -/
theorem fw_iv (y : Nat → Nat → Int) (i j : Nat) (hi : i < 8) (hj : j < 8) : fw (iv y) i j = 547363225600 * y i j := by
  unfold fw
  have e1 : ∀ k, k < 8 → tm i k * fr (iv y) k j = tm i k * s8 (fun m => tm m k * mm m * (739840 * y m j)) := by
    intro k _
    congr 1
    unfold fr
    have e2 : ∀ l, tm j l * iv y k l = s8 (fun m => tm m k * mm m * (tm j l * ir y m l)) := by
      intro l
      unfold iv
      rw [← s8_mul]
      apply s8_congr
      intro m _
      rw [← Int.mul_assoc, Int.mul_comm (tm j l), Int.mul_assoc]
    simp only [e2]
    rw [s8_comm]
    apply s8_congr
    intro m _
    rw [s8_mul]
    congr 1
    exact fwd1 (fun n => y m n) j hj
  rw [s8_congr e1, fwd1 (fun m => 739840 * y m j) i hi, ← Int.mul_assoc]
  rfl
theorem near_mul (v : Int) : near (547363225600 * v) = v := by unfold near; omega
/-- 5.4: nothing is lost -/
theorem back (x : Nat → Nat → Int) (k l : Nat) (hk : k < 8) (hl : l < 8) : near (iv (fw x) k l) = x k l := by
  rw [iv_fw x k l hk hl, near_mul]

/-- the transform of a sum, of a difference, of a multiple -/
theorem fw_add (x z : Nat → Nat → Int) (i j : Nat) : fw (fun k l => x k l + z k l) i j = fw x i j + fw z i j := by
  unfold fw fr
  rw [← s8_add]
  apply s8_congr
  intro k _
  rw [← Int.mul_add, ← s8_add]
  congr 1
  apply s8_congr
  intro l _
  rw [Int.mul_add]
theorem fw_mul (c : Int) (x : Nat → Nat → Int) (i j : Nat) : fw (fun k l => c * x k l) i j = c * fw x i j := by
  unfold fw fr
  rw [← s8_mul]
  apply s8_congr
  intro k _
  have e : s8 (fun l => tm j l * (c * x k l)) = c * s8 (fun l => tm j l * x k l) := by
    rw [← s8_mul]
    apply s8_congr
    intro l _
    rw [← Int.mul_assoc, Int.mul_comm (tm j l), Int.mul_assoc]
  rw [e, ← Int.mul_assoc, Int.mul_comm (tm i k), Int.mul_assoc]

theorem term_bd (t g B : Int) (h : -B ≤ g ∧ g ≤ B) : -((t.natAbs : Int) * B) ≤ t * g ∧ t * g ≤ (t.natAbs : Int) * B := by
  have hB : 0 ≤ B := by omega
  rcases Int.le_total 0 t with ht | ht
  · have e : ((t.natAbs : Nat) : Int) = t := by omega
    rw [e]
    have a := Int.mul_le_mul_of_nonneg_left h.2 ht
    have b := Int.mul_le_mul_of_nonneg_left h.1 ht
    rw [Int.mul_neg] at b
    exact ⟨b, a⟩
  · have e : ((t.natAbs : Nat) : Int) = -t := by omega
    rw [e, Int.neg_mul]
    have a := Int.mul_le_mul_of_nonpos_left ht h.2
    have b := Int.mul_le_mul_of_nonpos_left ht h.1
    rw [Int.mul_neg] at b
    constructor <;> omega
/-- a sum with factors is bounded -/
theorem s8_bd (t g : Nat → Int) (B : Int) (h : ∀ k, k < 8 → -B ≤ g k ∧ g k ≤ B) : -((s8 fun k => ((t k).natAbs : Int)) * B) ≤ s8 (fun k => t k * g k) ∧ s8 (fun k => t k * g k) ≤ (s8 fun k => ((t k).natAbs : Int)) * B := by
  rw [← s8_mul_r]
  constructor
  · have := s8_le (f := fun k => -(((t k).natAbs : Int) * B)) (g := fun k => t k * g k) fun k hk => (term_bd _ _ _ (h k hk)).1
    have e : s8 (fun k => -(((t k).natAbs : Int) * B)) = -s8 (fun k => ((t k).natAbs : Int) * B) := by simp only [s8]; omega
    omega
  · exact s8_le fun k hk => (term_bd _ _ _ (h k hk)).2
theorem fw_bd (x : Nat → Nat → Int) (B : Int) (h : ∀ k, k < 8 → ∀ l, l < 8 → -B ≤ x k l ∧ x k l ≤ B) (i j : Nat) :
    -(s8 (ab i) * (s8 (ab j) * B)) ≤ fw x i j ∧ fw x i j ≤ s8 (ab i) * (s8 (ab j) * B) := by
  refine s8_bd (fun k => tm i k) (fun k => fr x k j) (s8 (ab j) * B) fun k hk => ?_
  exact s8_bd (fun l => tm j l) (fun l => x k l) B fun l hl => h k hk l hl
theorem s8_nonneg {f : Nat → Int} (h : ∀ k, k < 8 → 0 ≤ f k) : 0 ≤ s8 f := by
  have := s8_le (f := fun _ => 0) h
  exact this
/-- 5.2: the elements of the transform of samples -/
theorem fw_most (x : Nat → Nat → Int) (B : Int) (hB : 0 ≤ B) (h : ∀ k, k < 8 → ∀ l, l < 8 → -B ≤ x k l ∧ x k l ≤ B) (i j : Nat) (hi : i < 8) (hj : j < 8) :
    -(4096 * B) ≤ fw x i j ∧ fw x i j ≤ 4096 * B := by
  obtain ⟨a, b⟩ := fw_bd x B h i j
  have k1 := Int.mul_le_mul_of_nonneg_right (ab_le j hj) hB
  have k2 : 0 ≤ s8 (ab i) := s8_nonneg fun k _ => Int.natCast_nonneg _
  have k3 := Int.mul_le_mul_of_nonneg_left k1 k2
  have k4 := Int.mul_le_mul_of_nonneg_right (ab_le i hi) (by omega : 0 ≤ 64 * B)
  omega
/-- 5.3: the block that the way back returns is the nearest one -/
theorem nearest (y : Nat → Nat → Int) (i j : Nat) (hi : i < 8) (hj : j < 8) :
    2 * (fw (fun k l => near (iv y k l)) i j - y i j) ≤ s8 (ab i) * s8 (ab j) ∧ 2 * (y i j - fw (fun k l => near (iv y k l)) i j) ≤ s8 (ab i) * s8 (ab j) := by
  have he : ∀ k, k < 8 → ∀ l, l < 8 → -273681612800 ≤ 547363225600 * near (iv y k l) + -1 * iv y k l ∧ 547363225600 * near (iv y k l) + -1 * iv y k l ≤ 273681612800 := by
    intro k _ l _
    unfold near
    omega
  have hb := fw_bd (fun k l => 547363225600 * near (iv y k l) + -1 * iv y k l) 273681612800 he i j
  rw [fw_add (fun k l => 547363225600 * near (iv y k l)) (fun k l => -1 * iv y k l), fw_mul 547363225600 (fun k l => near (iv y k l)), fw_mul (-1) (iv y), fw_iv y i j hi hj, ← Int.mul_assoc] at hb
  generalize s8 (ab i) * s8 (ab j) = p at *
  omega

/-- one dimension: the energy -/
theorem energy1 (v : Nat → Int) : s8 (fun j => mm j * ((s8 fun l => tm j l * v l) * (s8 fun l => tm j l * v l))) = 739840 * s8 (fun l => v l * v l) := by
  have e1 : ∀ j, mm j * ((s8 fun l => tm j l * v l) * (s8 fun l => tm j l * v l)) = s8 (fun l => v l * (tm j l * mm j * s8 fun m => tm j m * v m)) := by
    intro j
    have e2 : ∀ l, v l * (tm j l * mm j * s8 fun m => tm j m * v m) = tm j l * v l * (mm j * s8 fun m => tm j m * v m) := by
      intro l
      ac_rfl
    simp only [e2]
    rw [s8_mul_r]
    ac_rfl
  simp only [e1]
  rw [s8_comm, ← s8_mul]
  apply s8_congr
  intro l hl
  rw [s8_mul, inv1 v l hl]
  ac_rfl
/-- 5.4: the energy of a block is the weighted energy of its transform -/
theorem energy (x : Nat → Nat → Int) : s8 (fun i => s8 fun j => fw x i j * fw x i j * mm i * mm j) = 547363225600 * s8 (fun k => s8 fun l => x k l * x k l) := by
  have e1 : ∀ i, s8 (fun j => fw x i j * fw x i j * mm i * mm j) = 739840 * s8 (fun l => mm i * ((s8 fun k => tm i k * x k l) * (s8 fun k => tm i k * x k l))) := by
    intro i
    have e2 : ∀ j, fw x i j * fw x i j * mm i * mm j = mm i * (mm j * ((s8 fun l => tm j l * s8 fun k => tm i k * x k l) * (s8 fun l => tm j l * s8 fun k => tm i k * x k l))) := by
      intro j
      rw [← fw_swap]
      ac_rfl
    simp only [e2]
    rw [s8_mul, energy1 (fun l => s8 fun k => tm i k * x k l), s8_mul]
    ac_rfl
  simp only [e1]
  rw [s8_mul, s8_comm]
  have e3 : ∀ l, s8 (fun i => mm i * ((s8 fun k => tm i k * x k l) * (s8 fun k => tm i k * x k l))) = 739840 * s8 (fun k => x k l * x k l) := fun l => energy1 (fun k => x k l)
  simp only [e3]
  rw [s8_mul, ← Int.mul_assoc, s8_comm]
  rfl
end Go.Proofs.Ytkecdfhpoeknkaa.TF
