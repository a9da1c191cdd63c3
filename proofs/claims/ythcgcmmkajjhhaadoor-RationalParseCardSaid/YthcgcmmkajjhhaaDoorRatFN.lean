/- The reference's number. -/
import Derived.Test.YthcgcmmkajjhhaaDoorRatFD
import Derived.Test.YthcgcmmkajjhhaaDoorRatTP
namespace Go.Proofs.YthcgcmmkajjhhaaDoor
set_option linter.unusedVariables false
set_option linter.unusedSimpArgs false
open Go.RowKit

theorem drop_at (s : ByteArray) (i : Nat) (h : i < s.size) : s.data.toList.drop i = s[i] :: s.data.toList.drop (i + 1) := by
  have h' : i < s.data.toList.length := by rw [Array.length_toList]; exact h
  rw [List.drop_eq_getElem_cons h']
  rfl
theorem drop_end (s : ByteArray) (i : Nat) (h : s.size ≤ i) : s.data.toList.drop i = [] := by
  apply List.drop_eq_nil_of_le
  rw [Array.length_toList]
  exact h
theorem numG_stop {l : List UInt8} {n c : Nat} (h : ∀ x, l.head? = some x → ¬ (dig x ∧ c < 19)) : numG l n c = (n, c) := by
  cases l with
  | nil => rfl
  | cons x l =>
    unfold numG
    rw [if_neg (h x rfl)]
theorem numG_over {x : UInt8} {l : List UInt8} {n c : Nat} (h : dig x ∧ c < 19) (h2 : (9223372036854775807 - (x.toNat - 48)) / 10 < n) : numG (x :: l) n c = (0, 0) := by
  unfold numG
  rw [if_pos h, if_pos h2]
theorem numG_go {x : UInt8} {l : List UInt8} {n c : Nat} (h : dig x ∧ c < 19) (h2 : ¬ (9223372036854775807 - (x.toNat - 48)) / 10 < n) : numG (x :: l) n c = numG l (10 * n + (x.toNat - 48)) (c + 1) := by
  conv => lhs; unfold numG
  rw [if_pos h, if_neg h2]
theorem ret_num {p : Nat × Nat} {st : Nat} {a b : Int} (h1 : (p.1 : Int) = a) (h2 : (st : Int) + p.2 = b) : Ending.returned (.tuple #[.int .i64 a, .int .i64 b]) = .returned (.tuple #[.int .i64 p.1, .int .i64 ((st : Int) + p.2)]) := by rw [h1, h2]

set_option maxRecDepth 20000 in
set_option maxHeartbeats 1000000 in
theorem num_c (s : ByteArray) (st : Nat) (hs : s.size ≤ 281474976710656) (hst : st ≤ s.size) (w : World) :
    Calls Tryd.prog 40 #[.string s, .int .i64 st] w fun e w' => e = .returned (.tuple #[.int .i64 (numG (s.data.toList.drop st) 0 0).1, .int .i64 ((st : Int) + (numG (s.data.toList.drop st) 0 0).2)]) ∧ Below w.heap.size w w' := by
  obtain ⟨p, hp⟩ : ∃ p, numG (s.data.toList.drop st) 0 0 = p := ⟨_, rfl⟩
  rw [hp]
  have HP := Lib.hid hp
  clear hp
  go_enter Tryd.func40, Tryd.ntmps40
  go_wp2_with fail
  go_loopw [6, 7] (fun a b wr => ∃ (n i : Nat), n ≤ 9223372036854775807 ∧ a = .int .i64 (n : Int) ∧ b = .int .i64 (i : Int) ∧ st ≤ i ∧ i ≤ s.size ∧ numG (s.data.toList.drop i) n (i - st) = p ∧ Below w.heap.size w wr) (fun _ b _ => s.size - (intOf b).toNat)
  case atStart => exact ⟨0, st, by decide, rfl, rfl, Nat.le_refl _, hst, by rw [Nat.sub_self]; exact HP.out, Below.refl _ _⟩
  case round =>
    obtain ⟨n, i, hn, rfl, rfl, hi1, hi2, hq, hB⟩ := hrel
    have HB := Lib.hid hB
    clear hB
    have stop : numG (s.data.toList.drop i) n (i - st) = (n, i - st) → (p.1 : Int) = n ∧ (st : Int) + p.2 = i := by
      intro e
      rw [← hq, e]
      exact ⟨rfl, by simp only; omega⟩
    by_cases hlt : i < s.size
    · have hd := drop_at s i hlt
      obtain ⟨x, hx⟩ : ∃ x, s[i]'hlt = x := ⟨_, rfl⟩
      rw [hx] at hd
      rw [hd] at hq stop
      have hx8 : x.toNat < 256 := x.toNat_lt
      by_cases hdg : dig x
      · by_cases hc : i < st + 19
        · have hdd : 48 ≤ x.toNat ∧ x.toNat ≤ 57 := hdg
          by_cases ho : (9223372036854775807 - (x.toNat - 48)) / 10 < n
          · have hres := numG_over (l := s.data.toList.drop (i + 1)) ⟨hdg, (by omega : i - st < 19)⟩ ho
            rw [hq] at hres
            have HR := Lib.hid hres
            clear hres hq stop hd hdg
            go_wp2
            go_ret2
            exact ⟨ret_num (by rw [HR.out]; rfl) (by rw [HR.out]; simp), HB.out⟩
          · have hres := numG_go (l := s.data.toList.drop (i + 1)) ⟨hdg, (by omega : i - st < 19)⟩ ho
            rw [hq] at hres
            have hi3 : i + 1 - st = i - st + 1 := by omega
            have HR := Lib.hid hres
            have hn2 : 10 * n + (x.toNat - 48) ≤ 9223372036854775807 := by omega
            clear hres hq stop hd hdg
            go_wp2_with fail
            go_roundw
            case rel => exact ⟨10 * n + (x.toNat - 48), i + 1, hn2, congrArg (Value.int .i64) (by omega), congrArg (Value.int .i64) (by omega), by omega, by omega, by rw [hi3]; exact HR.out.symm, HB.out⟩
            case measure => simp [intOf]; omega
        · obtain ⟨e1, e2⟩ := stop (numG_stop (by intro y hy h; omega))
          have HR := Lib.hid (And.intro e1 e2)
          have hdd : 48 ≤ x.toNat ∧ x.toNat ≤ 57 := hdg
          clear stop hq hd e1 e2 hdg
          go_wp2
          go_ret2
          exact ⟨ret_num HR.out.1 HR.out.2, HB.out⟩
      · obtain ⟨e1, e2⟩ := stop (numG_stop (by
          intro y hy h
          simp at hy
          subst hy
          exact hdg h.1))
        have HR := Lib.hid (And.intro e1 e2)
        by_cases hlo : 48 ≤ x.toNat
        · have hhi : 57 < x.toNat := by unfold dig at hdg; omega
          clear stop hq hd e1 e2 hdg
          go_wp2
          go_ret2
          exact ⟨ret_num HR.out.1 HR.out.2, HB.out⟩
        · clear stop hq hd e1 e2 hdg
          go_wp2
          go_ret2
          exact ⟨ret_num HR.out.1 HR.out.2, HB.out⟩
    · obtain ⟨e1, e2⟩ := stop (numG_stop (by
        rw [drop_end s i (by omega)]
        intro y hy
        simp at hy))
      have HR := Lib.hid (And.intro e1 e2)
      clear stop hq e1 e2
      go_wp2
      go_ret2
      exact ⟨ret_num HR.out.1 HR.out.2, HB.out⟩
end Go.Proofs.YthcgcmmkajjhhaaDoor
