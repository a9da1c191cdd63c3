/- The reference's Decimal. -/
import Derived.Test.YthcgcmmkajjhhaaDoorRatV
import Derived.Test.YthcgcmmkajjhhaaDoorRatTM
import Derived.Lib.ItoaNum
import Derived.Laws.BytesArg
import Derived.Lib.BufferRead
namespace Go.Proofs.YthcgcmmkajjhhaaDoor
open Go.RowKit

theorem ba_app (a b : List UInt8) : (⟨a.toArray⟩ : ByteArray) ++ ⟨b.toArray⟩ = ⟨(a ++ b).toArray⟩ := by
  apply ByteArray.ext
  simp
theorem str_one (n : Nat) : strOfNums [(n : Int)] = ⟨([UInt8.ofNat n]).toArray⟩ := by
  unfold strOfNums
  simp
set_option maxRecDepth 20000 in
set_option maxHeartbeats 400000 in
theorem dec_c (u : Nat) (hu : u < 18446744073709551616) (w : World) :
    Calls Tryd.prog 36 #[.int .u64 (u : Int)] w fun e w' => e = .returned (.string ⟨(Lib.decDigits u).toArray⟩) ∧ Below w.heap.size w w' := by
  have hl20 := dec_len20 u hu
  have HL := Lib.hid hl20
  clear hl20
  go_enter Tryd.func36, Tryd.ntmps36
  go_wp2_with fail
  go_loopw [0, 3] (fun a b wr => ∃ (m : Nat) (t : List UInt8), m < 18446744073709551616 ∧ a = .int .u64 (m : Int) ∧ b = .string ⟨t.toArray⟩ ∧ Lib.decDigits m ++ t = Lib.decDigits u ∧ Below w.heap.size w wr) (fun a _ _ => (intOf a).toNat)
  case atStart => exact ⟨u, [], hu, rfl, rfl, by simp, Below.refl _ _⟩
  case round =>
    obtain ⟨m, t, hm, rfl, rfl, hd, hB⟩ := hrel
    have ht : t.length ≤ 20 := by have h1 := congrArg List.length hd; have h2 := HL.out; rw [List.length_append] at h1; omega
    have HD := Lib.hid hd; have HB := Lib.hid hB
    clear hd hB
    obtain ⟨c, hc⟩ : ∃ c, c = UInt8.ofNat (48 + m % 10) := ⟨_, rfl⟩
    have hconv : (convert 78 9 (.slice (some ⟨wr.heap.size, 0, none⟩) 1 1)).run Tryd.prog (wr.alloc (Obj.cells #[Value.int IntKind.u8 (48 + (m : Int) % 10)] 5)) = .ok (.string ⟨([c]).toArray⟩) (wr.alloc (Obj.cells #[Value.int IntKind.u8 (48 + (m : Int) % 10)] 5)) := by
      rw [hc, ← str_one]
      exact run_convert_bytes_arg (P := Tryd.prog) _ 78 5 Tryd.underlying78 Tryd.underlying5 wr.heap.size 0 1 1 [((48 + m % 10 : Nat) : Int)] rfl (by
        intro i hi
        obtain rfl : i = 0 := by omega
        have e : ((48 + m % 10 : Nat) : Int) = 48 + (m : Int) % 10 := by omega
        simp [e]) _ Tryd.underlying9
    have happ := ba_app [c] t
    have Hc := Lib.hid hc; have Happ := Lib.hid happ
    have hBn : ∀ o, Below w.heap.size w (wr.alloc o) := fun o => HB.out.alloc HB.out.size o
    clear hc happ
    by_cases hz : m < 10
    · have hq : ((m : Int) / 10 == 0) = true := by simp; omega
      have hres : c :: t = Lib.decDigits u := by
        have := HD.out
        rw [dec_small m hz] at this
        rw [Hc.out, Nat.mod_eq_of_lt hz]
        exact this
      have Hres := Lib.hid hres
      clear hz hres
      go_wp2
      go_ret
      exact ⟨by rw [← Hres.out]; exact congrArg (fun x => Ending.returned (Value.string x)) Happ.out, hBn _⟩
    · have hq : ((m : Int) / 10 == 0) = false := by simp; omega
      have hres : Lib.decDigits (m / 10) ++ (c :: t) = Lib.decDigits u := by
        have := HD.out
        rw [dec_big m hz] at this
        rw [Hc.out, ← this]
        simp
      have Hres := Lib.hid hres
      have hm1 : m / 10 < 18446744073709551616 := by omega
      have hm2 : m / 10 < m := by omega
      clear hz hres
      go_wp2_with fail
      go_roundw
      case rel => exact ⟨m / 10, c :: t, hm1, rfl, congrArg Value.string Happ.out, Hres.out, hBn _⟩
      case measure => simp [intOf]; omega
end Go.Proofs.YthcgcmmkajjhhaaDoor
