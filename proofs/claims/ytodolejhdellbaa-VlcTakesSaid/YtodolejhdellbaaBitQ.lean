/- The reference's reader: Open, Left, Take. -/
import Derived.Test.YtodolejhdellbaaBitK
import Derived.Test.YtodolejhdellbaaBitG
namespace Go.Proofs.Ytodolejhdellbaa
open Go.RowKit

/-- block g is a reader of the reference: the bits l, t of them taken -/
structure Rr (w : World) (base g : Nat) (A : Option Addr) (c : Nat) (l : List Bool) (t : Nat) : Prop where
  from_ : base ≤ g
  cel : Cel w g 46 #[.slice A l.length c, .int .i64 (t : Int)]
  sl : Sl w (.slice A l.length c) (BM.nat l)
  new : ∀ i, (Value.slice A l.length c).ownBlock = some i → base ≤ i ∧ i ≠ g
  taken : t ≤ l.length

theorem Rr.kept {w w' : World} {base g : Nat} {A : Option Addr} {c : Nat} {l : List Bool} {t : Nat} {S : Nat → Prop} (h : Rr w base g A c l t) (k : Touch w w' S) (hs : ¬ S g) (hn : ∀ i, (Value.slice A l.length c).ownBlock = some i → ¬ S i) : Rr w' base g A c l t :=
  ⟨h.from_, h.cel.kept k hs, h.sl.to k hn, h.new, h.taken⟩
theorem Rr.kept0 {w w' : World} {base g : Nat} {A : Option Addr} {c : Nat} {l : List Bool} {t : Nat} (h : Rr w base g A c l t) (k : Touch w w' (fun _ => False)) : Rr w' base g A c l t := h.kept k (fun e => e) (fun _ _ e => e)

theorem rleft_c (w : World) (base g : Nat) (A : Option Addr) (c : Nat) (l : List Bool) (t : Nat) (h : Rr w base g A c l t) (hl : l.length < 1099511627776) :
    Calls Try.prog 46 #[.pointer (some ⟨g, 0, none⟩)] w fun e w' => e = .returned (.int .i64 ((l.length - t : Nat) : Int)) ∧ ∃ n, w' = w.drewN n := by
  have c0 := h.cel.cell 0
  have c1 := h.cel.cell 1
  simp at c0 c1
  have ht := h.taken
  clear h
  have hs : ((l.length - t : Nat) : Int) = (l.length : Int) - (t : Int) := by omega
  rw [hs]
  clear hs
  generalize l.length = n at *
  go_enter Try.func46, Try.ntmps46
  go_wp2_with fail
  go_quiet (fail)
  go_wp2
  go_ret
  exact ⟨rfl, _, rfl⟩

theorem rtake_arg (w : World) (g : Nat) (n : Int) (hn : n < 0 ∨ 32 < n) :
    Calls Try.prog 47 #[.pointer (some ⟨g, 0, none⟩), .int .i64 n] w fun e w' => e = .returned (.tuple #[.int .u32 0, .int .i64 1]) ∧ w = w' := by
  rcases hn with hn | hn
  all_goals
    go_enter Try.func47, Try.ntmps47
    go_wp2
    go_ret2
    exact ⟨rfl, rfl⟩

set_option maxHeartbeats 400000 in
theorem rtake_short (w : World) (base g : Nat) (A : Option Addr) (c : Nat) (l : List Bool) (t n : Nat) (h : Rr w base g A c l t) (hl : l.length < 1099511627776) (hn : n ≤ 32) (hs : l.length - t < n) :
    Calls Try.prog 47 #[.pointer (some ⟨g, 0, none⟩), .int .i64 (n : Int)] w fun e w' => e = .returned (.tuple #[.int .u32 0, .int .i64 4]) ∧ ∃ k, w' = w.drewN k := by
  have H := Lib.hid h
  clear h
  go_enter Try.func47, Try.ntmps47
  go_wp2_with fail
  refine (rleft_c _ base g A c l t H.out hl).mono ?_
  rintro e w1 ⟨rfl, k, rfl⟩
  go_wp2
  go_ret2
  exact ⟨rfl, _, rfl⟩

theorem rstep_val (V : Nat) (b : Bool) (hV : V < 2147483648) :
    bits .or .u32 ((V : Int) * 2 % 4294967296) ((b.toNat : Int) % 4294967296) = ((2 * V + b.toNat : Nat) : Int) := by
  have e1 : ((V : Int) * 2 % 4294967296) = ((2 * V : Nat) : Int) := by omega
  have hb : ∀ b : Bool, ((b.toNat : Nat) : Int) % 4294967296 = (b.toNat : Int) := by decide
  have h2 : b.toNat < 2 := by cases b <;> decide
  rw [e1, hb, u32_or_nat _ _ (by omega) (by omega), nat_join 1 (2 * V) _ (by omega) (by omega)]

set_option maxHeartbeats 800000 in
theorem rtake_ok (w : World) (base g : Nat) (A : Option Addr) (c : Nat) (l : List Bool) (t n : Nat) (h : Rr w base g A c l t) (hl : l.length < 1099511627776) (hn : n ≤ 32) (hs : n ≤ l.length - t) :
    Calls Try.prog 47 #[.pointer (some ⟨g, 0, none⟩), .int .i64 (n : Int)] w fun e w' =>
      e = .returned (.tuple #[.int .u32 (BM.num (BM.part l t n) : Int), .int .i64 0]) ∧ Rr w' base g A c l (t + n) ∧ Touch w w' (fun k => k = g) := by
  have ht := h.taken
  have H := Lib.hid h
  clear h
  go_enter Try.func47, Try.ntmps47
  go_wp2_with fail
  refine (rleft_c _ base g A c l t H.out hl).mono ?_
  rintro e w1 ⟨rfl, k0, rfl⟩
  go_wp2_with fail
  go_loopw [6, 7] (fun v i wr => ∃ k : Nat, k ≤ n ∧ i = .int .i64 (k : Int) ∧ v = .int .u32 (BM.num (BM.part l t k) : Int) ∧ Touch w wr (fun _ => False)) (fun _ i _ => n - (intOf i).toNat)
  case atStart => exact ⟨0, Nat.zero_le _, rfl, by rw [BM.part_zero]; rfl, (Touch.refl _ _).drewN _⟩
  case round =>
    obtain ⟨k, hk, rfl, rfl, hT⟩ := hrel
    have hR := H.out.kept0 hT
    have HR := Lib.hid hR
    have HT := Lib.hid hT
    have hnl := BM.num_lt (BM.part l t k)
    have hpl := BM.length_part l t k
    by_cases hlt : k < n
    · have hA : ∃ gr o, A = some ⟨gr, o, none⟩ := by
        rcases hR.sl with ⟨e, _⟩ | ⟨a, c, e, _⟩ | ⟨g, o, cap, e, _⟩
        · injection e with _ e; omega
        · injection e with _ e; omega
        · injection e with e; exact ⟨g, o, e⟩
      obtain ⟨gr, o, rfl⟩ := hA
      have d0 := hR.cel.cell 0
      have d1 := hR.cel.cell 1
      simp at d0 d1
      have d2 := Sl.at_ hR.sl (t + k) (by rw [BM.length_nat]; omega)
      rw [BM.nat_getD] at d2
      have hstep := BM.part_succ l t k (BM.at_ l (t + k)) (by unfold BM.at_; rw [List.getD, List.getElem?_eq_getElem (by omega)]; rfl)
      generalize BM.at_ l (t + k) = b at *
      have Hs := Lib.hid hstep
      have hV : BM.num (BM.part l t k) < 2147483648 := by
        have : 2 ^ (BM.part l t k).length ≤ 2 ^ 31 := Nat.pow_le_pow_right (by decide) (by omega)
        omega
      have hval := rstep_val _ b hV
      have Hval := Lib.hid hval
      clear hstep hR hT hval hV
      generalize hLn : l.length = L at *
      have HLn := Lib.hid hLn
      clear hLn
      go_wp2_with fail
      go_quiet (fail)
      go_wp2
      go_roundw
      case rel =>
        refine ⟨k + 1, by omega, by go_num, ?_, HT.out.drewN _⟩
        rw [Hs.out, BM.num_snoc, ← Hval.out]
      case measure => simp [intOf]; omega
    · obtain rfl : k = n := by omega
      have d1 := hR.cel.cell 1
      have f1 := hR.cel.free 1
      simp at d1
      clear hR hT
      generalize hLn : l.length = L at *
      have HLn := Lib.hid hLn
      clear hLn
      go_wp2
      go_ret2
      have t1 : Touch wr (wr.setCell ⟨g, 1, none⟩ (.int .i64 ((t : Int) + (k : Int)))) (fun i => i = g) := Touch.store (S := fun i => i = g) (Touch.refl _ _) (p := ⟨g, 1, none⟩) (.inl rfl) _
      refine ⟨rfl, ⟨HR.out.from_, ?_, HR.out.sl.to t1 (fun i hi e => (HR.out.new i hi).2 e), HR.out.new, by rw [HLn.out]; omega⟩, (HT.out.wide (fun _ e => e.elim)).trans t1 (fun _ e => .inl e)⟩
      have c1 := HR.out.cel.store 1 (.int .i64 ((t + k : Nat) : Int))
      simpa using c1
end Go.Proofs.Ytodolejhdellbaa
