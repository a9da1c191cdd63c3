/- Writer.Put, Len; NewWriter. -/
import Derived.Test.YtodolejhdellbaaBitA
namespace Go.Proofs.Ytodolejhdellbaa
open Go.RowKit

theorem new_c (w : World) : Calls Try.prog 9 #[] w fun e w' =>
    e = .returned (.pointer (some ⟨w.heap.size, 0, none⟩)) ∧ Wr w' w.heap.size w.heap.size (.slice none 0 0) [] ∧ Touch w w' (fun _ => False) := by
  go_enter Try.func9, Try.ntmps9
  go_wp2
  go_ret
  refine ⟨rfl, ⟨Nat.le_refl _, ?_, ?_⟩, (Touch.refl _ _).alloc _⟩
  · exact Cel.made _ _ _
  · exact World.ownsRow_nil _ _ _ _

theorem len_c (w : World) (base g : Nat) (v : Value) (l : List Bool) (h : Wr w base g v l) :
    Calls Try.prog 15 #[.pointer (some ⟨g, 0, none⟩)] w fun e w' => e = .returned (.int .i64 (l.length : Int)) ∧ w = w' := by
  have c1 := h.cel.cell 1
  simp at c1
  have H := Lib.hid h
  clear h
  go_enter Try.func15, Try.ntmps15
  go_wp2
  go_ret
  exact ⟨rfl, rfl⟩

theorem bit_arg (x k : Nat) (hx : x < 4294967296) : bits .and .u32 ((x : Int) / 2 ^ k) 1 % 256 = ((x.testBit k).toNat : Int) := by
  have e : ((x : Int) / 2 ^ k) = ((x / 2 ^ k : Nat) : Int) := by simp
  have hlt : x / 2 ^ k < 4294967296 := Nat.lt_of_le_of_lt (Nat.div_le_self _ _) hx
  rw [e, show (1 : Int) = ((1 : Nat) : Int) from rfl, u32_and_nat _ _ hlt (by decide), nat_mask1, BM.bit_nat]
  have : ∀ b : Bool, ((b.toNat : Nat) : Int) % 256 = (b.toNat : Int) := by decide
  exact this _

set_option maxHeartbeats 400000 in
theorem put_ok (w : World) (base g : Nat) (v : Value) (l : List Bool) (x n : Nat) (h : Wr w base g v l) (hl : l.length < 1099511627000) (hn : n ≤ 32) (hx : x < 4294967296) (hxn : x / 2 ^ n = 0) :
    Calls Try.prog 33 #[.pointer (some ⟨g, 0, none⟩), .int .u32 (x : Int), .int .i64 (n : Int)] w fun e w' =>
      e = .returned (.int .i64 0) ∧ ∃ v', Grew w w' base g v v' (l ++ BM.vbits x n) := by
  have H := Lib.hid h
  clear h
  have hg : (((x : Int) / 2 ^ n != 0) = false) := by
    have : ((x : Int) / 2 ^ n) = ((x / 2 ^ n : Nat) : Int) := by simp
    rw [this, hxn]; rfl
  clear hxn
  go_enter Try.func33, Try.ntmps33
  go_wp2_with fail
  clear hg
  go_loopw [23] (fun i wr => ∃ k : Nat, k ≤ n ∧ i = .int .i64 (k : Int) ∧ ∃ v', Grew w wr base g v v' (l ++ BM.vbitsTo x n k)) (fun i _ => n - (intOf i).toNat)
  case atStart => exact ⟨0, Nat.zero_le _, rfl, v, by simpa [BM.vbitsTo] using H.out, .inl rfl, Touch.refl _ _⟩
  case round =>
    obtain ⟨k, hk, rfl, v', hG⟩ := hrel
    have HG := Lib.hid hG
    clear hG
    by_cases hlt : k < n
    · have hlen : (l ++ BM.vbitsTo x n k).length < 1099511627776 := by rw [List.length_append, BM.length_vbitsTo]; omega
      have harg := bit_arg x (n - 1 - k) hx
      have Harg := Lib.hid harg
      clear harg
      go_wp2_with fail
      rw [Harg.out]
      refine (add_c _ base g _ _ _ HG.out.wr hlen).mono ?_
      rintro e w1 ⟨rfl, v1, hG1⟩
      have hGG := HG.out.trans hG1
      rw [List.append_assoc, ← BM.vbitsTo_succ] at hGG
      have HGG := Lib.hid hGG
      clear hGG hG1 HG
      go_wp2
      go_roundw
      case rel => exact ⟨k + 1, by omega, by go_num, v1, HGG.out⟩
      case measure => simp [intOf]; omega
    · obtain rfl : k = n := by omega
      go_wp2
      go_ret
      exact ⟨rfl, v', by have := HG.out; rwa [BM.vbitsTo_all] at this⟩

theorem put_arg (w : World) (g : Nat) (x n : Int) (hn : n < 0 ∨ 32 < n) :
    Calls Try.prog 33 #[.pointer (some ⟨g, 0, none⟩), .int .u32 x, .int .i64 n] w fun e w' => e = .returned (.int .i64 1) ∧ w = w' := by
  rcases hn with hn | hn
  all_goals
    go_enter Try.func33, Try.ntmps33
    go_wp2
    go_ret
    exact ⟨rfl, rfl⟩

theorem put_range (w : World) (g : Nat) (x n : Nat) (hn : n ≤ 32) (hxn : x / 2 ^ n ≠ 0) :
    Calls Try.prog 33 #[.pointer (some ⟨g, 0, none⟩), .int .u32 (x : Int), .int .i64 (n : Int)] w fun e w' => e = .returned (.int .i64 2) ∧ w = w' := by
  have hg : (((x : Int) / 2 ^ n != 0) = true) := by
    have : ((x : Int) / 2 ^ n) = ((x / 2 ^ n : Nat) : Int) := by simp
    rw [this, bne_iff_ne]; omega
  clear hxn
  go_enter Try.func33, Try.ntmps33
  go_wp2
  go_ret
  exact ⟨rfl, rfl⟩
end Go.Proofs.Ytodolejhdellbaa
