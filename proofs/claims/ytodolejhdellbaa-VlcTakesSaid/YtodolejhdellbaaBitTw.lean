/- A reader and the reference's reader at one place; slices of ints. -/
import Derived.Test.YtodolejhdellbaaBitT
namespace Go.Proofs.Ytodolejhdellbaa
open Go.RowKit

/-- v is a slice of ints that reads as zs, below block B -/
def Il (w : World) (B : Nat) (v : Value) (zs : List Int) : Prop :=
  (∀ z ∈ zs, -9223372036854775808 ≤ z ∧ z ≤ 9223372036854775807) ∧
  ((∃ A c, v = .slice A 0 c ∧ zs = []) ∨ ∃ g o cap, v = .slice (some ⟨g, o, none⟩) zs.length cap ∧ zs.length ≤ cap ∧ g < B ∧ ∀ k z, zs[k]? = some z → w.cell? ⟨g, o + k, none⟩ = some (.int .i64 z))
theorem Il.to {w w' : World} {B : Nat} {v : Value} {zs : List Int} {S : Nat → Prop} (h : Il w B v zs) (k : Touch w w' S) (hB : B ≤ w.heap.size) (hS : ∀ i, i < B → ¬ S i) : Il w' B v zs := by
  refine ⟨h.1, ?_⟩
  rcases h.2 with h | ⟨g, o, cap, rfl, h2, h3, h4⟩
  · exact .inl h
  · exact .inr ⟨g, o, cap, rfl, h2, h3, fun j q hq => (k.cell (p := ⟨g, o + j, none⟩) (by show g < _; omega) (hS g h3)).trans (h4 j q hq)⟩
theorem Il.len {w : World} {B : Nat} {v : Value} {zs : List Int} (h : Il w B v zs) : ∃ A c, v = .slice A zs.length c := by
  rcases h.2 with ⟨_, _, rfl, rfl⟩ | ⟨g, o, cap, rfl, _⟩
  · exact ⟨_, _, rfl⟩
  · exact ⟨_, _, rfl⟩
theorem Il.at_ {w : World} {B n c : Nat} {A : Option Addr} {zs : List Int} (h : Il w B (.slice A n c) zs) (k : Nat) (hk : k < zs.length) :
    ∃ g o m, A = some ⟨g, o, none⟩ ∧ g < B ∧ -9223372036854775808 ≤ m ∧ m ≤ 9223372036854775807 ∧ w.cell? ⟨g, o + k, none⟩ = some (.int .i64 m) := by
  have hq : zs[k]? = some zs[k] := List.getElem?_eq_getElem hk
  have hm := h.1 _ (List.getElem_mem hk)
  rcases h.2 with ⟨_, _, _, rfl⟩ | ⟨g, o, cap, hv, _, h3, h4⟩
  · simp at hk
  · injection hv with hv
    subst hv
    exact ⟨g, o, zs[k], rfl, h3, hm.1, hm.2, h4 k _ hq⟩

/-- the two readers at one place -/
structure Two (w : World) (B gr : Nat) (A : Option Addr) (c gs : Nat) (A' : Option Addr) (c' : Nat) (p : List Nat) (t : Nat) : Prop where
  rd : Rd w B gr A c p t
  rr : Rr w B gs A' c' (BM.unpk p) t
  far : ∀ i, (Value.slice A' (BM.unpk p).length c').ownBlock = some i → i ≠ gr
  low : ∀ i, (Value.slice A p.length c).ownBlock = some i → i ≠ gs
theorem Two.ne {w : World} {B gr : Nat} {A : Option Addr} {c gs : Nat} {A' : Option Addr} {c' : Nat} {p : List Nat} {t : Nat} (h : Two w B gr A c gs A' c' p t) : gr ≠ gs := Cel.apart h.rd.cel h.rr.cel (by decide)
theorem Two.kept0 {w w' : World} {B gr : Nat} {A : Option Addr} {c gs : Nat} {A' : Option Addr} {c' : Nat} {p : List Nat} {t : Nat} (h : Two w B gr A c gs A' c' p t) (k : Touch w w' (fun _ => False)) : Two w' B gr A c gs A' c' p t :=
  ⟨h.rd.kept0 k, h.rr.kept0 k, h.far, h.low⟩

theorem rleft_q (w : World) (base g : Nat) (A : Option Addr) (c : Nat) (p : List Nat) (t : Nat) (h : Rr w base g A c (BM.unpk p) t) (hl : (BM.unpk p).length < 1099511627776) :
    Calls Try.prog 46 #[.pointer (some ⟨g, 0, none⟩)] w fun e w' => e = .returned (.int .i64 ((BM.cnt p - t : Nat) : Int)) ∧ ∃ n, w' = w.drewN n := by
  have := rleft_c w base g A c (BM.unpk p) t h hl
  rwa [BM.length_unpk] at this
theorem Two.drewN {w : World} {B gr : Nat} {A : Option Addr} {c gs : Nat} {A' : Option Addr} {c' : Nat} {p : List Nat} {t : Nat} (h : Two w B gr A c gs A' c' p t) (n : Nat) : Two (w.drewN n) B gr A c gs A' c' p t := h.kept0 ((Touch.refl _ _).drewN _)
/-- what Take answers -/
def tk (p : List Nat) (t : Nat) (m : Int) : Nat × Int := if m < 0 ∨ 32 < m then (0, 1) else if m.toNat ≤ BM.cnt p - t then (BM.num (BM.part (BM.unpk p) t m.toNat), 0) else (0, 4)
def mv (p : List Nat) (t : Nat) (m : Int) : Nat := if m < 0 ∨ 32 < m then t else if m.toNat ≤ BM.cnt p - t then t + m.toNat else t
theorem take_c (w : World) (base g : Nat) (A : Option Addr) (c : Nat) (p : List Nat) (t : Nat) (m : Int) (h : Rd w base g A c p t) (hp : p.length < 1099511627776) :
    Calls Try.prog 45 #[.pointer (some ⟨g, 0, none⟩), .int .i64 m] w fun e w' => e = .returned (.tuple #[.int .u32 ((tk p t m).1 : Int), .int .i64 (tk p t m).2]) ∧ Rd w' base g A c p (mv p t m) ∧ Touch w w' (fun k => k = g) := by
  unfold tk mv
  by_cases h1 : m < 0 ∨ 32 < m
  · rw [if_pos h1, if_pos h1]
    exact (take_arg w g m h1).mono fun _ _ ⟨a, b⟩ => ⟨a, by subst b; exact h, by subst b; exact Touch.refl _ _⟩
  · rw [if_neg h1, if_neg h1]
    obtain ⟨n, rfl⟩ : ∃ n : Nat, m = (n : Int) := ⟨m.toNat, by omega⟩
    rw [Int.toNat_natCast]
    by_cases h2 : n ≤ BM.cnt p - t
    · rw [if_pos h2, if_pos h2]
      exact take_ok w base g A c p t n h hp (by omega) h2
    · rw [if_neg h2, if_neg h2]
      refine (take_short w base g A c p t n h hp (by omega) (by omega)).mono fun _ _ ⟨a, k, b⟩ => ⟨a, ?_, ?_⟩
      · subst b; exact h.drewN _
      · subst b; exact (Touch.refl _ _).drewN _
theorem rtake_c (w : World) (base g : Nat) (A : Option Addr) (c : Nat) (p : List Nat) (t : Nat) (m : Int) (h : Rr w base g A c (BM.unpk p) t) (hp : (BM.unpk p).length < 1099511627776) :
    Calls Try.prog 47 #[.pointer (some ⟨g, 0, none⟩), .int .i64 m] w fun e w' => e = .returned (.tuple #[.int .u32 ((tk p t m).1 : Int), .int .i64 (tk p t m).2]) ∧ Rr w' base g A c (BM.unpk p) (mv p t m) ∧ Touch w w' (fun k => k = g) := by
  unfold tk mv
  have hlu := BM.length_unpk p
  by_cases h1 : m < 0 ∨ 32 < m
  · rw [if_pos h1, if_pos h1]
    exact (rtake_arg w g m h1).mono fun _ _ ⟨a, b⟩ => ⟨a, by subst b; exact h, by subst b; exact Touch.refl _ _⟩
  · rw [if_neg h1, if_neg h1]
    obtain ⟨n, rfl⟩ : ∃ n : Nat, m = (n : Int) := ⟨m.toNat, by omega⟩
    rw [Int.toNat_natCast]
    by_cases h2 : n ≤ BM.cnt p - t
    · rw [if_pos h2, if_pos h2]
      exact rtake_ok w base g A c (BM.unpk p) t n h hp (by omega) (by omega)
    · rw [if_neg h2, if_neg h2]
      refine (rtake_short w base g A c (BM.unpk p) t n h hp (by omega) (by omega)).mono fun _ _ ⟨a, k, b⟩ => ⟨a, ?_, ?_⟩
      · subst b; exact h.kept0 ((Touch.refl _ _).drewN _)
      · subst b; exact (Touch.refl _ _).drewN _

end Go.Proofs.Ytodolejhdellbaa
