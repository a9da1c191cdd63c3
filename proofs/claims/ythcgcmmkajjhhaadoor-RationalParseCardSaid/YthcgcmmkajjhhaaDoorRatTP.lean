/- Texts of numbers: both ways to read them give the same. Imports nothing of the program. -/
import Derived.Test.YthcgcmmkajjhhaaDoorRatTM
import Derived.Lib.Bytealg
namespace Go.Proofs.YthcgcmmkajjhhaaDoor

def I64 (n : Int) : Prop := -9223372036854775808 ≤ n ∧ n ≤ 9223372036854775807

/-- the parts before and behind the first slash, and whether there is one -/
def cutL (s : List UInt8) : List UInt8 × List UInt8 × Bool :=
  if 0 ≤ Lib.indexByte s 47 then (s.take (Lib.indexByte s 47).toNat, s.drop ((Lib.indexByte s 47).toNat + 1), true) else (s, [], false)
def denL (s : List UInt8) : List UInt8 := if (cutL s).2.2 = true then (cutL s).2.1 else [49]
/-- what the code's Parse answers -/
def PS (s : List UInt8) : Int × Int × Int :=
  match Lib.parseIntB 64 (cutL s).1, Lib.parseIntB 64 (denL s) with
  | .ok n, .ok d => if RM.ok n d = true ∧ FL n d = s then (n, d, 0) else (0, 0, 3)
  | _, _ => (0, 0, 3)

/-- the digits that the reference reads -/
def numG : List UInt8 → Nat → Nat → Nat × Nat
  | [], n, c => (n, c)
  | x :: l, n, c => if dig x ∧ c < 19 then (if (9223372036854775807 - (x.toNat - 48)) / 10 < n then (0, 0) else numG l (10 * n + (x.toNat - 48)) (c + 1)) else (n, c)
def sgL (s : List UInt8) : Nat := if s.head? = some 45 then 1 else 0
def n1 (s : List UInt8) : Nat × Nat := numG (s.drop (sgL s)) 0 0
def nuL (s : List UInt8) : Int := if sgL s = 1 then -((n1 s).1 : Int) else (n1 s).1
def deL (s : List UInt8) : Int := if s[sgL s + (n1 s).2]? = some 47 then ((numG (s.drop (sgL s + (n1 s).2 + 1)) 0 0).1 : Int) else 1
/-- what the reference's Parse answers -/
def RS (s : List UInt8) : Int × Int × Int := if s = [] ∨ FL (nuL s) (deL s) ≠ s then (0, 0, 3) else (nuL s, deL s, 0)

theorem numG_le : ∀ (l : List UInt8) (n c : Nat), n ≤ 9223372036854775807 → (numG l n c).1 ≤ 9223372036854775807 ∧ (numG l n c).2 ≤ c + l.length
  | [], n, c, h => ⟨h, by simp [numG]⟩
  | x :: l, n, c, h => by
    unfold numG
    by_cases h1 : dig x ∧ c < 19
    · rw [if_pos h1]
      by_cases h2 : (9223372036854775807 - (x.toNat - 48)) / 10 < n
      · rw [if_pos h2]; simp
      · rw [if_neg h2]
        have hx := h1.1
        unfold dig at hx
        obtain ⟨a, b⟩ := numG_le l (10 * n + (x.toNat - 48)) (c + 1) (by omega)
        exact ⟨a, by simp; omega⟩
    · rw [if_neg h1]; exact ⟨h, by simp⟩
theorem numG_digs : ∀ (D R : List UInt8) (n c : Nat), (∀ x ∈ D, dig x) → (∀ x, R.head? = some x → ¬ dig x) → c + D.length ≤ 19 → val n D ≤ 9223372036854775807 → numG (D ++ R) n c = (val n D, c + D.length)
  | [], R, n, c, _, hR, hc, hv => by
    cases R with
    | nil => rfl
    | cons x R =>
      have := hR x rfl
      show numG (x :: R) n c = (n, c)
      unfold numG
      rw [if_neg (fun h => this h.1)]
  | x :: D, R, n, c, hD, hR, hc, hv => by
    have hx := hD x (by simp)
    have hx' : 48 ≤ x.toNat ∧ x.toNat ≤ 57 := hx
    have hv' : val (n * 10 + (x.toNat - 48)) D ≤ 9223372036854775807 := hv
    have hge := val_ge D (n * 10 + (x.toNat - 48))
    simp at hc
    show numG (x :: (D ++ R)) n c = _
    unfold numG
    rw [if_pos ⟨hx, by omega⟩, if_neg (by omega), show 10 * n = n * 10 from Nat.mul_comm _ _, numG_digs D R _ _ (fun y hy => hD y (by simp [hy])) hR (by omega) hv']
    simp [val]
    omega
theorem not_dig47 : ¬ dig 47 := by decide
theorem not_dig45 : ¬ dig 45 := by decide
theorem ok_bd {n d : Int} (h : RM.ok n d = true) (hn : I64 n) (hd : I64 d) : 1 ≤ d ∧ n.natAbs ≤ 9223372036854775807 ∧ d.toNat ≤ 9223372036854775807 := by
  have := RM.ok_parts h
  unfold I64 at *
  omega
theorem itoa_nn {d : Int} (h : 1 ≤ d) : Lib.itoa d = Lib.decDigits d.toNat := by unfold Lib.itoa; rw [if_neg (by omega)]
/-- the tail of a text behind the numerator -/
def tailL (d : Int) : List UInt8 := if d = 1 then [] else 47 :: Lib.decDigits d.toNat
theorem FL_tail {n d : Int} (h : RM.ok n d = true) : FL n d = Lib.itoa n ++ tailL d := by
  have := (RM.ok_parts h).1
  unfold FL tailL
  rw [if_pos h, itoa_nn this]
theorem tail_head (d : Int) : ∀ x, (tailL d).head? = some x → ¬ dig x := by
  intro x hx
  unfold tailL at hx
  split at hx
  · simp at hx
  · simp at hx; subst hx; exact not_dig47
theorem dec_head {u : Nat} {x : UInt8} {R : List UInt8} (h : (Lib.decDigits u ++ R).head? = some x) : dig x := by
  cases hl : Lib.decDigits u with
  | nil => exact absurd hl (dec_ne u)
  | cons c l =>
    rw [hl] at h
    simp at h
    subst h
    exact dec_digs u c (by rw [hl]; simp)

theorem RS_FL {n d : Int} (h : RM.ok n d = true) (hn : I64 n) (hd : I64 d) : RS (FL n d) = (n, d, 0) := by
  obtain ⟨b1, b2, b3⟩ := ok_bd h hn hd
  have hD : numG (Lib.decDigits n.natAbs ++ tailL d) 0 0 = (n.natAbs, (Lib.decDigits n.natAbs).length) := by
    rw [numG_digs _ _ 0 0 (dec_digs _) (tail_head d) (by have := dec_len19 n.natAbs (by omega); omega) (by rw [val_dec]; omega), val_dec]
    simp
  have hDd : numG (Lib.decDigits d.toNat) 0 0 = (d.toNat, (Lib.decDigits d.toNat).length) := by
    have := numG_digs (Lib.decDigits d.toNat) [] 0 0 (dec_digs _) (by simp) (by have := dec_len19 d.toNat (by omega); omega) (by rw [val_dec]; omega)
    rw [List.append_nil, val_dec] at this
    simpa using this
  have key : ∀ (s : List UInt8) (g : Nat), s.drop g = Lib.decDigits n.natAbs ++ tailL d → sgL s = g → deL s = d := by
    intro s g hs hg
    have e1 : n1 s = (n.natAbs, (Lib.decDigits n.natAbs).length) := by unfold n1; rw [hg, hs, hD]
    unfold deL
    rw [hg, e1]
    simp only
    have e2 : s[g + (Lib.decDigits n.natAbs).length]? = (tailL d)[0]? := by
      rw [← List.getElem?_drop, hs, List.getElem?_append_right (Nat.le_refl _), Nat.sub_self]
    have e3 : s.drop (g + (Lib.decDigits n.natAbs).length + 1) = (tailL d).drop 1 := by
      rw [Nat.add_assoc, ← List.drop_drop, hs, ← List.drop_drop, List.drop_left]
    rw [e2, e3]
    unfold tailL
    by_cases hd1 : d = 1
    · rw [if_pos hd1]; simp [hd1]
    · rw [if_neg hd1]
      simp only [List.getElem?_cons_zero, List.drop_one, List.tail_cons, if_true]
      rw [hDd]
      simp only
      omega
  have hne : FL n d ≠ [] := by
    rw [FL_tail h]
    intro e
    have := congrArg List.length e
    rw [List.length_append] at this
    by_cases hs : n < 0
    · rw [itoa_neg hs] at this; simp at this
    · rw [itoa_pos hs] at this
      have h0 := dec_pos n.natAbs
      rw [List.length_nil] at this
      omega
  have hall : ∀ (s : List UInt8), s = FL n d → nuL s = n ∧ deL s = d := by
    intro s hs
    by_cases hneg : n < 0
    · have hs' : s = 45 :: (Lib.decDigits n.natAbs ++ tailL d) := by rw [hs, FL_tail h, itoa_neg hneg]; rfl
      have hg : sgL s = 1 := by unfold sgL; rw [hs']; rfl
      have hdr : s.drop 1 = Lib.decDigits n.natAbs ++ tailL d := by rw [hs']; rfl
      refine ⟨?_, key s 1 hdr hg⟩
      unfold nuL n1
      rw [hg, hdr, hD, if_pos rfl]
      simp only
      omega
    · have hs' : s = Lib.decDigits n.natAbs ++ tailL d := by rw [hs, FL_tail h, itoa_pos hneg]
      have hg : sgL s = 0 := by
        unfold sgL
        rw [if_neg]
        intro e
        rw [hs'] at e
        exact not_dig45 (dec_head e)
      have hdr : s.drop 0 = Lib.decDigits n.natAbs ++ tailL d := by rw [hs']; rfl
      refine ⟨?_, key s 0 hdr hg⟩
      unfold nuL n1
      rw [hg, hdr, hD, if_neg (by decide)]
      simp only
      omega
  obtain ⟨e1, e2⟩ := hall _ rfl
  unfold RS
  rw [e1, e2, if_neg (by simp [hne])]

theorem index_none : ∀ (l : List UInt8), (∀ x ∈ l, x ≠ 47) → Lib.indexByte l 47 = -1
  | [], _ => rfl
  | x :: l, h => by
    have h1 := h x (by simp)
    have h2 := index_none l (fun y hy => h y (by simp [hy]))
    unfold Lib.indexByte
    rw [if_neg (by simpa using h1), h2]
    rfl
theorem index_at : ∀ (l r : List UInt8), (∀ x ∈ l, x ≠ 47) → Lib.indexByte (l ++ 47 :: r) 47 = (l.length : Int)
  | [], r, _ => rfl
  | x :: l, r, h => by
    have h1 := h x (by simp)
    have h2 := index_at l r (fun y hy => h y (by simp [hy]))
    show Lib.indexByte (x :: (l ++ 47 :: r)) 47 = _
    unfold Lib.indexByte
    rw [if_neg (by simpa using h1), h2]
    simp
theorem itoa_no47 (n : Int) : ∀ x ∈ Lib.itoa n, x ≠ 47 := by
  intro x hx e
  subst e
  have hd : ∀ u, (47 : UInt8) ∈ Lib.decDigits u → False := fun u h => not_dig47 (dec_digs u _ h)
  by_cases hn : n < 0
  · rw [itoa_neg hn] at hx
    simp at hx
    exact hd _ hx
  · rw [itoa_pos hn] at hx
    exact hd _ hx
theorem PS_FL {n d : Int} (h : RM.ok n d = true) (hn : I64 n) (hd : I64 d) : PS (FL n d) = (n, d, 0) := by
  have hp : ∀ s, s = FL n d → Lib.parseIntB 64 (cutL s).1 = .ok n ∧ Lib.parseIntB 64 (denL s) = .ok d := by
    intro s hs
    by_cases hd1 : d = 1
    · have hs' : s = Lib.itoa n := by rw [hs, FL_one h hd1]
      have hi := index_none (Lib.itoa n) (itoa_no47 n)
      have hc : cutL s = (Lib.itoa n, [], false) := by unfold cutL; rw [hs', hi, if_neg (by decide)]
      unfold denL
      rw [hc]
      refine ⟨parseI_itoa n hn, ?_⟩
      rw [hd1]
      show Lib.parseIntB 64 [49] = .ok 1
      decide +kernel
    · have hs' : s = Lib.itoa n ++ 47 :: Lib.itoa d := by rw [hs, FL_two h hd1]; simp
      have hi := index_at (Lib.itoa n) (Lib.itoa d) (itoa_no47 n)
      have hc : cutL s = (Lib.itoa n, Lib.itoa d, true) := by
        unfold cutL
        rw [hs', hi, if_pos (by omega), Int.toNat_natCast, List.take_left]
        congr 2
        rw [← List.drop_drop, List.drop_left]; rfl
      unfold denL
      rw [hc]
      exact ⟨parseI_itoa n hn, by simpa using parseI_itoa d hd⟩
  obtain ⟨e1, e2⟩ := hp _ rfl
  unfold PS
  rw [e1, e2]
  simp only
  rw [if_pos ⟨h, trivial⟩]
theorem parse_in {l : List UInt8} {v : Int} (h : Lib.parseIntB 64 l = .ok v) : I64 v := by
  unfold Lib.parseIntB at h
  unfold I64
  split at h
  · cases h
  · rename_i c r
    simp only at h
    split at h
    · cases h
    · cases h
    · rename_i u hu
      split at h
      · cases h
      · rename_i g1
        split at h
        · cases h
        · rename_i g2
          injection h with h
          subst h
          by_cases hc : c.toNat = 45
          · rw [if_pos hc]
            simp [hc] at g2
            omega
          · rw [if_neg hc]
            simp [hc] at g1
            omega
/-- both ways give the same -/
theorem PS_RS (s : List UInt8) : PS s = RS s := by
  by_cases hex : ∃ n d, RM.ok n d = true ∧ I64 n ∧ I64 d ∧ FL n d = s
  · obtain ⟨n, d, h, hn, hd, rfl⟩ := hex
    rw [PS_FL h hn hd, RS_FL h hn hd]
  · have h1 : PS s = (0, 0, 3) := by
      unfold PS
      split
      · rename_i n d e1 e2
        rw [if_neg]
        rintro ⟨h, hf⟩
        exact hex ⟨n, d, h, parse_in e1, parse_in e2, hf⟩
      · rfl
    have h2 : RS s = (0, 0, 3) := by
      unfold RS
      by_cases hc : s = [] ∨ FL (nuL s) (deL s) ≠ s
      · rw [if_pos hc]
      · exfalso
        have hs : s ≠ [] := fun e => hc (.inl e)
        have hf : FL (nuL s) (deL s) = s := Decidable.byContradiction fun e => hc (.inr e)
        have hok : RM.ok (nuL s) (deL s) = true := by
          cases hk : RM.ok (nuL s) (deL s)
          · rw [FL_bad hk] at hf; exact absurd hf.symm hs
          · rfl
        refine hex ⟨_, _, hok, ?_, ?_, hf⟩
        · have := (numG_le (s.drop (sgL s)) 0 0 (by omega)).1
          unfold I64 nuL n1
          split <;> omega
        · have := (numG_le (s.drop (sgL s + (n1 s).2 + 1)) 0 0 (by omega)).1
          unfold I64 deL
          split <;> omega
    rw [h1, h2]
end Go.Proofs.YthcgcmmkajjhhaaDoor
