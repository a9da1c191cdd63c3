/- Writer.Put, whatever its arguments. -/
import Derived.Test.YtodolejhdellbaaBitP
import Derived.Test.YtodolejhdellbaaBitM2
namespace Go.Proofs.Ytodolejhdellbaa
open Go.RowKit

/-- Put, whatever its arguments -/
theorem put_c (w : World) (base g : Nat) (v : Value) (l : List Bool) (x : Nat) (n : Int) (h : Wr w base g v l) (hl : l.length < 1099511627000) (hx : x < 4294967296) :
    Calls Try.prog 33 #[.pointer (some ⟨g, 0, none⟩), .int .u32 (x : Int), .int .i64 n] w fun e w' =>
      e = .returned (.int .i64 (BM.may x n)) ∧ ∃ v', Grew w w' base g v v' (l ++ BM.one (x, n)) := by
  have hsame : ∀ w', w = w' → BM.one (x, n) = [] → ∃ v', Grew w w' base g v v' (l ++ BM.one (x, n)) := by
    intro w' e1 e2
    subst e1
    rw [e2, List.append_nil]
    exact ⟨v, h, .inl rfl, Touch.refl _ _⟩
  unfold BM.may
  by_cases h1 : n < 0 ∨ 32 < n
  · rw [if_pos h1]
    exact (put_arg w g x n h1).mono fun _ w' ⟨a, b⟩ => ⟨a, hsame w' b (by unfold BM.one BM.may; rw [if_pos h1]; rfl)⟩
  · rw [if_neg h1]
    obtain ⟨m, rfl⟩ : ∃ m : Nat, n = (m : Int) := ⟨n.toNat, by omega⟩
    rw [Int.toNat_natCast]
    by_cases h2 : x / 2 ^ m = 0
    · rw [if_pos h2]
      have e : BM.one (x, (m : Int)) = BM.vbits x m := by unfold BM.one BM.may; rw [if_neg h1, Int.toNat_natCast, if_pos h2]; rfl
      rw [e]
      exact put_ok w base g v l x m h hl (by omega) hx h2
    · rw [if_neg h2]
      exact (put_range w g x m (by omega) h2).mono fun _ w' ⟨a, b⟩ => ⟨a, hsame w' b (by unfold BM.one BM.may; rw [if_neg h1, Int.toNat_natCast, if_neg h2]; rfl)⟩

end Go.Proofs.Ytodolejhdellbaa
