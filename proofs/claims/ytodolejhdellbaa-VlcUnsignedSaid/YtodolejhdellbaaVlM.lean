/- Plain mathematics of the codes of numbers: zeros, and the number plus one. Imports nothing of the program. -/
import Derived.Test.YtodolejhdellbaaBitM3
import Derived.Lib.BitFns
import Derived.Lib.ItoaNum
namespace Go.Proofs.Ytodolejhdellbaa
namespace BM

/-- the zeros of v's code -/
def hf (v : Nat) : Nat := Nat.log2 (v + 1)
def code (v : Nat) : List Bool := vbits (v + 1) (2 * hf v + 1)
theorem hf_lo (v : Nat) : 2 ^ hf v ≤ v + 1 := Nat.log2_self_le (by omega)
theorem hf_hi (v : Nat) : v + 1 < 2 ^ (hf v + 1) := Nat.lt_log2_self
theorem pow_lt_of {a b : Nat} (h : 2 ^ a < 2 ^ b) : a < b := by
  rcases Nat.lt_or_ge a b with h2 | h2
  · exact h2
  · have := Nat.pow_le_pow_right (n := 2) (by decide) h2; omega
theorem hf_eq (v k : Nat) (h1 : 2 ^ k ≤ v + 1) (h2 : v + 1 < 2 ^ (k + 1)) : hf v = k := by
  have a := pow_lt_of (Nat.lt_of_le_of_lt h1 (hf_hi v))
  have b := pow_lt_of (Nat.lt_of_le_of_lt (hf_lo v) h2)
  omega
theorem hf_le (v : Nat) (h : v ≤ 65534) : hf v ≤ 15 := by
  have := pow_lt_of (b := 16) (Nat.lt_of_le_of_lt (hf_lo v) (by omega))
  omega
theorem hf_mono {a b : Nat} (h : a ≤ b) : hf a ≤ hf b := by
  have := pow_lt_of (Nat.lt_of_le_of_lt (Nat.le_trans (hf_lo a) (Nat.add_le_add_right h 1)) (hf_hi b))
  omega
theorem bitLen_hf (v : Nat) (h : v + 1 < 2 ^ 64) : Lib.bitLen (v + 1) = hf v + 1 := by
  obtain ⟨h1, h2, h3⟩ := Lib.bitLenAux_bounds 64 (v + 1) h (by omega)
  have := hf_eq v (Lib.bitLenAux 64 (v + 1) - 1) h2 (by rw [Nat.sub_add_cancel h1]; exact h3)
  unfold Lib.bitLen
  omega
theorem length_code (v : Nat) : (code v).length = 2 * hf v + 1 := length_vbits _ _
theorem num_code (v : Nat) : num (code v) = v + 1 := by
  refine num_vbits _ _ (Nat.lt_of_lt_of_le (hf_hi v) (Nat.pow_le_pow_right (by decide) (by omega)))
theorem vbits_zeros (x k n : Nat) (h : x < 2 ^ n) : vbits x (k + n) = List.replicate k false ++ vbits x n := by
  unfold vbits
  rw [List.range_add, List.map_append]
  congr 1
  · apply List.ext_getElem?
    intro i
    by_cases hi : i < k
    · simp only [List.getElem?_map, List.getElem?_range hi, Option.map_some, List.getElem?_replicate, hi, if_true]
      rw [Nat.testBit_lt_two_pow (Nat.lt_of_lt_of_le h (Nat.pow_le_pow_right (by decide) (by omega)))]
    · rw [List.getElem?_eq_none (by simp; omega), List.getElem?_eq_none (by simp; omega)]
  · rw [List.map_map]
    apply List.map_congr_left
    intro i hi
    have hi := List.mem_range.1 hi
    show x.testBit (k + n - 1 - (k + i)) = x.testBit (n - 1 - i)
    congr 1; omega
theorem code_split (v : Nat) : code v = List.replicate (hf v) false ++ vbits (v + 1) (hf v + 1) := by
  unfold code
  rw [show 2 * hf v + 1 = hf v + (hf v + 1) by omega, vbits_zeros _ _ _ (hf_hi v)]
theorem vbits_cons (x n : Nat) : vbits x (n + 1) = x.testBit n :: vbits x n := by
  unfold vbits
  rw [List.range_succ_eq_map, List.map_cons, List.map_map]
  congr 1
  apply List.map_congr_left
  intro i _
  show x.testBit (n + 1 - 1 - (i + 1)) = x.testBit (n - 1 - i)
  congr 1; omega
theorem top_hf (v : Nat) : (v + 1).testBit (hf v) = true := by
  have h1 := hf_lo v
  have h2 := hf_hi v
  rw [Nat.testBit_eq_decide_div_mod_eq]
  have : (v + 1) / 2 ^ hf v = 1 := by
    rw [Nat.pow_succ] at h2
    exact Nat.div_eq_of_lt_le (by omega) (by omega)
  rw [this]; rfl
theorem code_head (v : Nat) : code v = List.replicate (hf v) false ++ (true :: vbits (v + 1) (hf v)) := by
  rw [code_split, vbits_cons, top_hf]

/-- the bits 0 that l begins with, at most m -/
def zl : List Bool → Nat → Nat
  | _, 0 => 0
  | [], _ + 1 => 0
  | true :: _, _ + 1 => 0
  | false :: l, m + 1 => zl l m + 1
theorem zl_le : ∀ (m : Nat) (l : List Bool), zl l m ≤ m
  | 0, l => by simp [zl]
  | m + 1, [] => by simp [zl]
  | m + 1, true :: l => by simp [zl]
  | m + 1, false :: l => by have := zl_le m l; simp [zl]; omega
theorem zl_len : ∀ (m : Nat) (l : List Bool), zl l m ≤ l.length
  | 0, l => by simp [zl]
  | m + 1, [] => by simp [zl]
  | m + 1, true :: l => by simp [zl]
  | m + 1, false :: l => by have := zl_len m l; simp [zl]; omega
theorem zl_take : ∀ (m : Nat) (l : List Bool), zl (l.take m) m = zl l m
  | 0, l => by simp [zl]
  | m + 1, [] => by simp [zl]
  | m + 1, true :: l => by simp [zl]
  | m + 1, false :: l => by have := zl_take m l; simp [zl, this]
theorem zl_more : ∀ (l : List Bool) (m : Nat), l.length ≤ m → zl l m = zl l l.length
  | [], 0, _ => rfl
  | [], m + 1, _ => by simp [zl]
  | true :: l, 0, h => by simp at h
  | true :: l, m + 1, _ => by simp [zl]
  | false :: l, 0, h => by simp at h
  | false :: l, m + 1, h => by have := zl_more l m (by simpa using h); simp [zl, this]
theorem zl_ge : ∀ (k m : Nat) (l : List Bool), k ≤ m → (∀ i, i < k → l[i]? = some false) → k ≤ zl l m
  | 0, m, l, _, _ => Nat.zero_le _
  | k + 1, 0, l, h, _ => by omega
  | k + 1, m + 1, [], _, h => by have := h 0 (by omega); simp at this
  | k + 1, m + 1, true :: l, _, h => by have := h 0 (by omega); simp at this
  | k + 1, m + 1, false :: l, hk, h => by
    have := zl_ge k m l (by omega) (fun i hi => by have := h (i + 1) (by omega); simpa using this)
    simp [zl]; omega
theorem zl_stop : ∀ (k m : Nat) (l : List Bool), (∀ i, i < k → l[i]? = some false) → k < m → l[k]? ≠ some false → zl l m = k
  | 0, 0, l, _, h, _ => by omega
  | 0, m + 1, [], _, _, _ => by simp [zl]
  | 0, m + 1, true :: l, _, _, _ => by simp [zl]
  | 0, m + 1, false :: l, _, _, h => by simp at h
  | k + 1, 0, l, _, h, _ => by omega
  | k + 1, m + 1, [], h, _, _ => by have := h 0 (by omega); simp at this
  | k + 1, m + 1, true :: l, h, _, _ => by have := h 0 (by omega); simp at this
  | k + 1, m + 1, false :: l, h, hk, hl => by
    have := zl_stop k m l (fun i hi => by have := h (i + 1) (by omega); simpa using this) (by omega) (by simpa using hl)
    simp [zl, this]
theorem zl_at : ∀ (m : Nat) (l : List Bool), zl l m < m → zl l m < l.length → l[zl l m]? = some true
  | 0, l, h, _ => by omega
  | m + 1, [], _, h => by simp [zl] at h
  | m + 1, true :: l, _, _ => by simp [zl]
  | m + 1, false :: l, h, h2 => by have := zl_at m l (by simp [zl] at h; omega) (by simp [zl] at h2; omega); simp [zl, this]
theorem zl_code (v : Nat) (c : List Bool) (m : Nat) (h : hf v < m) : zl (code v ++ c) m = hf v := by
  refine zl_stop _ _ _ ?_ h ?_
  · intro i hi
    rw [code_head, List.append_assoc, List.getElem?_append_left (by simp; omega), List.getElem?_replicate, if_pos hi]
  · rw [code_head, List.append_assoc, List.getElem?_append_right (by simp)]
    simp

theorem num_fold (l : List Bool) (a : Nat) : l.foldl (fun v b => 2 * v + b.toNat) a = a * 2 ^ l.length + num l := by
  unfold num
  induction l generalizing a with
  | nil => simp
  | cons b l ih =>
    rw [List.foldl_cons, List.foldl_cons, ih, ih (2 * 0 + b.toNat), List.length_cons, Nat.pow_succ]
    rw [Nat.add_mul, Nat.mul_comm 2 a, Nat.mul_assoc, Nat.mul_comm 2 (2 ^ l.length)]
    simp [Nat.add_assoc]
theorem num_cons (b : Bool) (l : List Bool) : num (b :: l) = b.toNat * 2 ^ l.length + num l := by
  have : num (b :: l) = l.foldl (fun v b => 2 * v + b.toNat) (2 * 0 + b.toNat) := rfl
  rw [this, num_fold]; simp
theorem bitLen_num : ∀ (l : List Bool), l.length ≤ 63 → Lib.bitLen (num l) = l.length - zl l l.length
  | [], _ => rfl
  | true :: l, h => by
    have hl := num_lt l
    have e := num_cons true l
    have hp := Nat.two_pow_pos l.length
    have h2 : num (true :: l) = (2 ^ l.length - 1 + num l) + 1 := by rw [e]; simp; omega
    have hb : 2 ^ (l.length + 1) ≤ 2 ^ 63 := Nat.pow_le_pow_right (by decide) (by simpa using h)
    have h3 : 2 ^ l.length - 1 + num l + 1 < 2 ^ (l.length + 1) := by rw [Nat.pow_succ]; omega
    rw [h2, bitLen_hf _ (by omega), hf_eq _ l.length (by omega) h3]
    simp [zl]
  | false :: l, h => by
    have := bitLen_num l (by simp at h; omega)
    rw [num_cons]
    simp [zl, this]
theorem num_pos : ∀ (l : List Bool) (k : Nat), l[k]? = some true → 0 < num l
  | [], k, h => by simp at h
  | true :: l, 0, _ => by rw [num_cons]; have := Nat.two_pow_pos l.length; simp; omega
  | false :: l, 0, h => by simp at h
  | b :: l, k + 1, h => by have := num_pos l k (by simpa using h); rw [num_cons]; omega

/-- what TakeUnsigned answers t bits into l -/
def tku (l : List Bool) (t : Nat) : Int × Int :=
  if zl (l.drop t) 16 = 16 then (0, 3)
  else if l.length - t < 2 * zl (l.drop t) 16 + 1 then (0, 4)
  else ((num (part l t (2 * zl (l.drop t) 16 + 1)) : Int) - 1, 0)
/-- where it leaves the reader -/
def mvu (l : List Bool) (t : Nat) : Nat :=
  if zl (l.drop t) 16 = 16 then t
  else if l.length - t < 2 * zl (l.drop t) 16 + 1 then t
  else t + (2 * zl (l.drop t) 16 + 1)
/-- the signed number of an unsigned one -/
def sgn (v : Int) : Int := if v % 2 = 1 then (v + 1) / 2 else -(v / 2)
/-- the unsigned number of a signed one -/
def uns (v : Int) : Int := if 0 < v then 2 * v - 1 else -2 * v
theorem sgn_uns (v : Int) : sgn (uns v) = v := by
  unfold sgn uns
  split <;> split <;> omega
theorem uns_ge (v : Int) : 0 ≤ uns v := by unfold uns; split <;> omega
theorem uns_le (v : Int) (h1 : -32767 ≤ v) (h2 : v ≤ 32767) : uns v ≤ 65534 := by unfold uns; split <;> omega
theorem tku_bounds (l : List Bool) (t : Nat) : 0 ≤ (tku l t).1 ∧ (tku l t).1 ≤ 2147483647 ∧ 0 ≤ (tku l t).2 ∧ (tku l t).2 ≤ 4 := by
  unfold tku
  by_cases h1 : zl (l.drop t) 16 = 16
  · rw [if_pos h1]; simp
  · rw [if_neg h1]
    by_cases h2 : l.length - t < 2 * zl (l.drop t) 16 + 1
    · rw [if_pos h2]; simp
    · rw [if_neg h2]
      have hz := zl_le 16 (l.drop t)
      have hat := zl_at 16 (l.drop t) (by omega) (by rw [List.length_drop]; omega)
      have hp := num_pos (part l t (2 * zl (l.drop t) 16 + 1)) (zl (l.drop t) 16) (by
        unfold part; rw [List.getElem?_take, if_pos (by omega)]; exact hat)
      have hlt := num_lt (part l t (2 * zl (l.drop t) 16 + 1))
      have hlen := length_part l t (2 * zl (l.drop t) 16 + 1)
      have : 2 ^ (part l t (2 * zl (l.drop t) 16 + 1)).length ≤ 2 ^ 31 := Nat.pow_le_pow_right (by decide) (by omega)
      refine ⟨?_, ?_, Int.le_refl _, (by decide : (0 : Int) ≤ 4)⟩
      · show 0 ≤ ((num _ : Nat) : Int) - 1; omega
      · show ((num _ : Nat) : Int) - 1 ≤ 2147483647; omega
theorem mvu_le (l : List Bool) (t : Nat) (h : t ≤ l.length) : mvu l t ≤ l.length := by
  unfold mvu
  split
  · exact h
  · split <;> omega
/-- a code is read back, whatever follows it -/
theorem tku_code (a c : List Bool) (v : Nat) (hv : v ≤ 65534) : tku (a ++ code v ++ c) a.length = ((v : Int), 0) ∧ mvu (a ++ code v ++ c) a.length = a.length + (code v).length := by
  have hh := hf_le v hv
  have hd : (a ++ code v ++ c).drop a.length = code v ++ c := by rw [List.append_assoc, List.drop_left]
  have hz := zl_code v c 16 (by omega)
  have hlen : (a ++ code v ++ c).length - a.length = (code v).length + c.length := by simp [Nat.add_assoc]
  have hp : part (a ++ code v ++ c) a.length (2 * hf v + 1) = code v := by
    have := part_mid a (code v) c
    rwa [length_code] at this
  unfold tku mvu
  rw [hlen, length_code] 
  rw [hd, hz, if_neg (by omega), if_neg (by omega), if_neg (by omega), if_neg (by omega), hp, num_code]
  refine ⟨?_, rfl⟩
  congr 1; omega
end BM
end Go.Proofs.Ytodolejhdellbaa
