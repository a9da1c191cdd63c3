/- Plain mathematics of payloads that are read. Imports nothing of the program. -/
import Derived.Test.YtodolejhdellbaaBitM
namespace Go.Proofs.Ytodolejhdellbaa
namespace BM

/-- the bits 0 below the lowest bit 1; 8 for 0 -/
def tz (x : Nat) : Nat := ((List.range 8).find? fun i => x.testBit i).getD 8
theorem tz_all : ∀ x : Fin 256, x.val ≠ 0 → tz x.val < 8 ∧ x.val.testBit (tz x.val) = true ∧ ∀ i : Fin 8, i.val < tz x.val → x.val.testBit i.val = false := by decide +kernel
/-- bit j of a sequence of bytes -/
def pbit (p : List Nat) (j : Nat) : Bool := (p.getD (j / 8) 0).testBit (7 - j % 8)
/-- the bits before the end mark -/
def cnt (p : List Nat) : Nat := 8 * p.length - (1 + tz (p.getD (p.length - 1) 0))
def unpk (p : List Nat) : List Bool := (List.range (cnt p)).map (pbit p)
/-- a payload: bytes, at least one, the last one not 0 -/
structure Good (p : List Nat) : Prop where
  byte : ∀ x ∈ p, x < 256
  some_ : 0 < p.length
  last : p.getD (p.length - 1) 0 ≠ 0
theorem getD_byte {p : List Nat} (h : ∀ x ∈ p, x < 256) (i : Nat) : p.getD i 0 < 256 := by
  by_cases hi : i < p.length
  · rw [List.getD, List.getElem?_eq_getElem hi]; exact h _ (List.getElem_mem hi)
  · rw [List.getD, List.getElem?_eq_none (by omega)]; decide
theorem Good.tz {p : List Nat} (h : Good p) : tz (p.getD (p.length - 1) 0) < 8 := (tz_all ⟨_, getD_byte h.byte _⟩ h.last).1
theorem Good.cnt_lt {p : List Nat} (h : Good p) : cnt p < 8 * p.length := by have := h.some_; unfold cnt; omega
theorem Good.cnt_eq {p : List Nat} (h : Good p) : cnt p + (1 + BM.tz (p.getD (p.length - 1) 0)) = 8 * p.length := by have := h.some_; have := h.tz; unfold cnt; omega
theorem length_unpk (p : List Nat) : (unpk p).length = cnt p := by simp [unpk]
theorem unpk_get (p : List Nat) (j : Nat) (h : j < cnt p) : (unpk p)[j]? = some (pbit p j) := by unfold unpk; simp [h]
theorem Good.mark {p : List Nat} (h : Good p) : pbit p (cnt p) = true := by
  have e := h.cnt_eq
  have t := h.tz
  have s := h.some_
  have k := (tz_all ⟨_, getD_byte h.byte (p.length - 1)⟩ h.last).2.1
  unfold pbit
  rw [show cnt p / 8 = p.length - 1 by omega, show 7 - cnt p % 8 = BM.tz (p.getD (p.length - 1) 0) by omega]
  exact k
theorem Good.tail {p : List Nat} (h : Good p) (j : Nat) (h1 : cnt p < j) (h2 : j < 8 * p.length) : pbit p j = false := by
  have e := h.cnt_eq
  have t := h.tz
  have s := h.some_
  have k := (tz_all ⟨_, getD_byte h.byte (p.length - 1)⟩ h.last).2.2 ⟨7 - j % 8, by omega⟩
  unfold pbit
  rw [show j / 8 = p.length - 1 by omega]
  exact k (by show 7 - j % 8 < BM.tz (p.getD (p.length - 1) 0); omega)
/-- the next n bits behind t -/
def part (l : List Bool) (t n : Nat) : List Bool := (l.drop t).take n
theorem part_zero (l : List Bool) (t : Nat) : part l t 0 = [] := by simp [part]
theorem part_succ (l : List Bool) (t n : Nat) (b : Bool) (h : l[t + n]? = some b) : part l t (n + 1) = part l t n ++ [b] := by
  unfold part
  rw [List.take_add_one, List.getElem?_drop, h]; rfl
theorem num_from (l : List Bool) (a : Nat) : l.foldl (fun v b => 2 * v + b.toNat) a < (a + 1) * 2 ^ l.length := by
  induction l generalizing a with
  | nil => simp
  | cons b l ih =>
    rw [List.foldl_cons, List.length_cons]
    refine Nat.lt_of_lt_of_le (ih _) ?_
    rw [Nat.pow_succ, Nat.mul_comm (2 ^ l.length) 2, ← Nat.mul_assoc]
    refine Nat.mul_le_mul_right _ ?_
    have : b.toNat ≤ 1 := by cases b <;> decide
    omega
theorem num_lt (l : List Bool) : num l < 2 ^ l.length := by
  have := num_from l 0
  unfold num
  omega
theorem length_part (l : List Bool) (t n : Nat) : (part l t n).length ≤ n := by unfold part; simp; omega

/-- bits as bytes 0 and 1 -/
def nat (l : List Bool) : List Nat := l.map Bool.toNat
theorem nat_app (l m : List Bool) : nat (l ++ m) = nat l ++ nat m := by simp [nat]
theorem length_nat (l : List Bool) : (nat l).length = l.length := by simp [nat]
theorem nat_getD (l : List Bool) (i : Nat) : (nat l).getD i 0 = (at_ l i).toNat := by
  unfold nat at_
  rw [List.getD, List.getElem?_map, List.getD]
  cases l[i]? <;> rfl
/-- m bytes of a sequence of bits, whatever its length -/
def padb (l : List Bool) (m : Nat) : List Nat := (List.range m).map (byteAt l)
theorem length_padb (l : List Bool) (m : Nat) : (padb l m).length = m := by simp [padb]
theorem padb_nil (m : Nat) : padb [] m = List.replicate m 0 := by
  unfold padb
  apply List.ext_getElem?
  intro i
  by_cases h : i < m
  · simp [h, byteAt_past [] i (by simp)]
  · simp [h]
theorem padb_get (l : List Bool) (m i : Nat) (h : i < m) : (padb l m)[i]? = some (byteAt l i) := by unfold padb; simp [h]
theorem padb_app (l : List Bool) (m : Nat) (b : Bool) (_h : l.length / 8 < m) :
    padb (l ++ [b]) m = (padb l m).set (l.length / 8) (byteAt l (l.length / 8) ||| (b.toNat <<< (7 - l.length % 8))) := by
  apply List.ext_getElem?
  intro i
  have e := byteAt_app l b
  by_cases hi : i < m
  · rw [padb_get _ _ _ hi]
    by_cases h2 : i = l.length / 8
    · subst h2
      rw [e, List.getElem?_set_self (by rw [length_padb]; omega)]
    · rw [List.getElem?_set_ne (by omega), byteAt_app_other _ _ _ h2, padb_get _ _ _ hi]
  · rw [List.getElem?_eq_none (by rw [length_padb]; omega), List.getElem?_eq_none (by rw [List.length_set, length_padb]; omega)]
theorem padb_app_zero (l : List Bool) (m : Nat) (h : l.length / 8 < m) : padb (l ++ [false]) m = padb l m := by
  rw [padb_app l m false h]
  apply List.ext_getElem?
  intro i
  by_cases h2 : i = l.length / 8
  · subst h2
    rw [List.getElem?_set_self (by rw [length_padb]; omega), padb_get _ _ _ h]
    simp
  · rw [List.getElem?_set_ne (by omega)]
theorem padb_all (l : List Bool) : padb (l ++ [true]) (l.length / 8 + 1) = pay l := by
  unfold pay fill padb
  have : nb (l ++ [true]).length = l.length / 8 + 1 := by simp [nb]; omega
  rw [this]
theorem take_app (l : List Bool) (i : Nat) (h : i < l.length) : l.take (i + 1) = l.take i ++ [at_ l i] := by
  rw [List.take_add_one]
  unfold at_
  simp [List.getD, h]
theorem vbits_byte (p : List Nat) (i : Nat) : (List.range 8).map (fun t => pbit p (8 * i + t)) = vbits (p.getD i 0) 8 := by
  unfold vbits
  apply List.map_congr_left
  intro t ht
  have ht := List.mem_range.1 ht
  unfold pbit
  rw [show (8 * i + t) / 8 = i by omega, show (8 * i + t) % 8 = t by omega]
/-- all bits of the first i bytes -/
def allb (p : List Nat) (i : Nat) : List Bool := (List.range (8 * i)).map (pbit p)
theorem allb_succ (p : List Nat) (i : Nat) : allb p (i + 1) = allb p i ++ vbits (p.getD i 0) 8 := by
  rw [← vbits_byte]
  unfold allb
  rw [show 8 * (i + 1) = 8 * i + 8 by omega, List.range_add, List.map_append, List.map_map]
  rfl
theorem length_allb (p : List Nat) (i : Nat) : (allb p i).length = 8 * i := by simp [allb]
theorem allb_at (p : List Nat) (i j : Nat) (h : j < 8 * i) : at_ (allb p i) j = pbit p j := by
  unfold at_ allb; simp [List.getD, h]
theorem allb_take (p : List Nat) (h : cnt p ≤ 8 * p.length) : (allb p p.length).take (cnt p) = unpk p := by
  unfold allb unpk
  rw [← List.map_take, List.take_range, Nat.min_eq_left h]

/-- what Put says of x and n: 0 fine, 1 and 2 the errors -/
def may (x : Nat) (n : Int) : Int := if n < 0 ∨ 32 < n then 1 else if x / 2 ^ n.toNat = 0 then 0 else 2
/-- the bits that one call puts -/
def one (q : Nat × Int) : List Bool := if may q.1 q.2 = 0 then vbits q.1 q.2.toNat else []
/-- the bits that calls put -/
def bits (ops : List (Nat × Int)) : List Bool := ops.flatMap one
theorem bits_take (ops : List (Nat × Int)) (k : Nat) (q : Nat × Int) (h : ops[k]? = some q) : bits (ops.take (k + 1)) = bits (ops.take k) ++ one q := by
  unfold bits
  rw [List.take_add_one, h, Option.toList_some, List.flatMap_append, List.flatMap_singleton]
theorem length_one (q : Nat × Int) : (one q).length ≤ 32 := by
  unfold one may
  by_cases h : q.2 < 0 ∨ 32 < q.2
  · rw [if_pos h]; simp
  · rw [if_neg h]
    by_cases h2 : q.1 / 2 ^ q.2.toNat = 0
    · rw [if_pos h2, if_pos rfl, length_vbits]; omega
    · rw [if_neg h2]; simp
theorem length_bits (ops : List (Nat × Int)) : (bits ops).length ≤ 32 * ops.length := by
  induction ops with
  | nil => simp [bits]
  | cons q l ih =>
    have := length_one q
    unfold bits at *
    rw [List.flatMap_cons, List.length_append, List.length_cons]
    omega
end BM
end Go.Proofs.Ytodolejhdellbaa
