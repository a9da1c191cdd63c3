/- Texts of numbers, in plain words: what Format writes, and that it is read back. Imports nothing of the program. -/
import Derived.Test.YthcgcmmkajjhhaaDoorRatM
import Derived.Lib.ItoaNum
import Derived.Lib.ParseIntB
namespace Go.Proofs.YthcgcmmkajjhhaaDoor

theorem dec_small (u : Nat) (h : u < 10) : Lib.decDigits u = [UInt8.ofNat (48 + u)] := by rw [Lib.decDigits, dif_pos h]
theorem dec_big (u : Nat) (h : ¬ u < 10) : Lib.decDigits u = Lib.decDigits (u / 10) ++ [UInt8.ofNat (48 + u % 10)] := by rw [Lib.decDigits, dif_neg h]
theorem dec_len : ∀ (k u : Nat), u < 10 ^ (k + 1) → (Lib.decDigits u).length ≤ k + 1
  | 0, u, h => by rw [dec_small u (by simpa using h)]; simp
  | k + 1, u, h => by
    by_cases hs : u < 10
    · rw [dec_small u hs]; simp
    · rw [dec_big u hs, List.length_append]
      have := dec_len k (u / 10) (by rw [Nat.pow_succ] at h; omega)
      simp
      omega
theorem dec_len20 (u : Nat) (h : u < 18446744073709551616) : (Lib.decDigits u).length ≤ 20 := dec_len 19 u (by omega)
theorem dec_len19 (u : Nat) (h : u < 10000000000000000000) : (Lib.decDigits u).length ≤ 19 := dec_len 18 u (by omega)
theorem dec_pos (u : Nat) : 0 < (Lib.decDigits u).length := by
  by_cases h : u < 10
  · rw [dec_small u h]; simp
  · rw [dec_big u h]; simp
/-- the text of a number -/
def FL (n d : Int) : List UInt8 := if RM.ok n d = true then Lib.itoa n ++ (if d = 1 then [] else 47 :: Lib.itoa d) else []
theorem itoa_len (n : Int) (h : -9223372036854775808 ≤ n ∧ n ≤ 9223372036854775807) : (Lib.itoa n).length ≤ 21 := by
  unfold Lib.itoa
  split
  · have := dec_len20 n.natAbs (by omega); simp; omega
  · have := dec_len20 n.toNat (by omega); omega
theorem FL_bad {n d : Int} (h : RM.ok n d = false) : FL n d = [] := by unfold FL; rw [if_neg (by simp [h])]
theorem FL_one {n d : Int} (h : RM.ok n d = true) (h1 : d = 1) : FL n d = Lib.itoa n := by unfold FL; rw [if_pos h, if_pos h1, List.append_nil]
theorem FL_two {n d : Int} (h : RM.ok n d = true) (h1 : ¬ d = 1) : FL n d = Lib.itoa n ++ [47] ++ Lib.itoa d := by unfold FL; rw [if_pos h, if_neg h1]; simp
theorem itoa_neg {n : Int} (h : n < 0) : Lib.itoa n = [45] ++ Lib.decDigits n.natAbs := by unfold Lib.itoa; rw [if_pos h]; rfl
theorem itoa_pos {n : Int} (h : ¬ n < 0) : Lib.itoa n = Lib.decDigits n.natAbs := by unfold Lib.itoa; rw [if_neg h]; congr 1; omega

/-- a digit -/
def dig (c : UInt8) : Prop := 48 ≤ c.toNat ∧ c.toNat ≤ 57
instance (c : UInt8) : Decidable (dig c) := by unfold dig; infer_instance
theorem dig_of (k : Nat) (h : k < 10) : dig (UInt8.ofNat (48 + k)) ∧ (UInt8.ofNat (48 + k)).toNat = 48 + k := by
  have : (UInt8.ofNat (48 + k)).toNat = 48 + k := by rw [UInt8.toNat_ofNat']; omega
  unfold dig
  omega
theorem dec_digs (u : Nat) : ∀ c ∈ Lib.decDigits u, dig c := by
  induction u using Nat.strongRecOn with
  | ind u ih =>
    intro c hc
    by_cases h : u < 10
    · rw [dec_small u h, List.mem_singleton] at hc
      subst hc
      exact (dig_of u h).1
    · rw [dec_big u h, List.mem_append, List.mem_singleton] at hc
      rcases hc with hc | hc
      · exact ih (u / 10) (by omega) c hc
      · subst hc; exact (dig_of _ (Nat.mod_lt _ (by decide))).1
/-- the value of digits -/
def val (a : Nat) (l : List UInt8) : Nat := l.foldl (fun a c => a * 10 + (c.toNat - 48)) a
theorem val_dec (u : Nat) : val 0 (Lib.decDigits u) = u := by
  induction u using Nat.strongRecOn with
  | ind u ih =>
    by_cases h : u < 10
    · rw [dec_small u h]
      unfold val
      simp only [List.foldl_cons, List.foldl_nil]
      rw [(dig_of u h).2]
      omega
    · rw [dec_big u h]
      unfold val at *
      rw [List.foldl_append, ih (u / 10) (by omega)]
      simp only [List.foldl_cons, List.foldl_nil]
      rw [(dig_of _ (Nat.mod_lt _ (by decide))).2]
      omega
theorem val_ge (l : List UInt8) (a : Nat) : a ≤ val a l := by
  induction l generalizing a with
  | nil => exact Nat.le_refl _
  | cons c l ih =>
    have := ih (a * 10 + (c.toNat - 48))
    unfold val at *
    rw [List.foldl_cons]
    omega
/-- the code's reading of digits: no overflow where the value is small -/
theorem parseU_digs (M : Nat) (hM : M ≤ 18446744073709551615) : ∀ (l : List UInt8) (a : Nat), (∀ c ∈ l, dig c) → val a l ≤ M → Lib.parseUintM M a l = .ok (val a l)
  | [], a, _, _ => rfl
  | c :: l, a, hc, hv => by
    have h1 : 48 ≤ c.toNat ∧ c.toNat ≤ 57 := hc c (by simp)
    have hge := val_ge l (a * 10 + (c.toNat - 48))
    have hv' : val (a * 10 + (c.toNat - 48)) l ≤ M := hv
    unfold Lib.parseUintM
    rw [if_pos h1, if_neg (by omega), if_neg (by omega)]
    exact parseU_digs M hM l _ (fun x hx => hc x (by simp [hx])) hv'
theorem dec_ne (u : Nat) : Lib.decDigits u ≠ [] := by
  intro e
  have := dec_pos u
  rw [e] at this
  simp at this
theorem parseI_itoa (n : Int) (h : -9223372036854775808 ≤ n ∧ n ≤ 9223372036854775807) : Lib.parseIntB 64 (Lib.itoa n) = .ok n := by
  have hu : Lib.parseUintB 64 (Lib.decDigits n.natAbs) = .ok n.natAbs := by
    unfold Lib.parseUintB
    rw [if_neg (dec_ne _), parseU_digs _ (by decide) _ _ (dec_digs _) (by rw [val_dec]; omega), val_dec]
  by_cases hn : n < 0
  · rw [itoa_neg hn]
    show Lib.parseIntB 64 (45 :: Lib.decDigits n.natAbs) = _
    unfold Lib.parseIntB
    simp only
    rw [if_pos (by decide), hu]
    simp only
    rw [if_neg (by simp), if_neg (by simp; omega), if_pos (by decide)]
    congr 1; omega
  · rw [itoa_pos hn]
    have hd := dec_digs n.natAbs
    cases hl : Lib.decDigits n.natAbs with
    | nil => exact absurd hl (dec_ne _)
    | cons c l =>
      rw [hl] at hu hd
      have hc := hd c (by simp)
      unfold dig at hc
      unfold Lib.parseIntB
      simp only
      rw [if_neg (by omega), hu]
      simp only
      rw [if_neg (by simp; omega), if_neg (by omega), if_neg (by omega)]
      congr 1; omega
end Go.Proofs.YthcgcmmkajjhhaaDoor
