/- strings.Cut at one letter, and strconv.ParseInt, as the code calls them. -/
import Derived.Test.YthcgcmmkajjhhaaDoorRatFF
import Derived.Test.YthcgcmmkajjhhaaDoorRatTP
import Derived.Test.YthcgcmmkajjhhaaDoorErrShelf
import Derived.Shelf.RegionOpenPlain
import Derived.Deep.Draws
import Derived.Laws.Strings3
import Derived.BigGuard
import Derived.Stop.LaidErr
namespace Go.Proofs.YthcgcmmkajjhhaaDoor
open Go.RowKit

theorem index_lt : ∀ (l : List UInt8) (c : UInt8), Lib.indexByte l c < (l.length : Int)
  | [], _ => by simp [Lib.indexByte]
  | b :: l, c => by
    have ih := index_lt l c
    unfold Lib.indexByte
    simp only [List.length_cons]
    split
    · omega
    · split <;> omega

set_option maxHeartbeats 1000000 in
theorem cutl_c (s : ByteArray) (hs : s.size ≤ 281474976710656) (w : World) :
    Calls Tryd.prog 55 #[.string s, .string ⟨#[47]⟩] w fun e w' => e = .returned (.tuple #[.string ⟨(cutL s.data.toList).1.toArray⟩, .string ⟨(cutL s.data.toList).2.1.toArray⟩, .bool (cutL s.data.toList).2.2]) ∧ Below w.heap.size w w' := by
  have hlt := index_lt s.data.toList 47
  have hge := Lib.indexByte_ge s.data.toList 47
  have hsz : s.data.toList.length = s.size := (Lib.size_eq s).symm
  by_cases hi : 0 ≤ Lib.indexByte s.data.toList 47
  · obtain ⟨i, hi'⟩ : ∃ i : Nat, Lib.indexByte s.data.toList 47 = i := ⟨_, (Int.toNat_of_nonneg hi).symm⟩
    have ht : List.take (s.size - (i + 1)) (List.drop (i + 1) s.data.toList) = List.drop (i + 1) s.data.toList :=
      List.take_of_length_le (by rw [List.length_drop, hsz]; exact Nat.le_refl _)
    have e : cutL s.data.toList = (s.data.toList.take i, s.data.toList.drop (i + 1), true) := by
      unfold cutL
      rw [hi', if_pos (by omega), Int.toNat_natCast]
    have e1 : (⟨(s.data.toList.take i).toArray⟩ : ByteArray) = s.extract 0 i := by rw [Lib.extract_eq]; simp
    have e2 : (⟨(s.data.toList.drop (i + 1)).toArray⟩ : ByteArray) = s.extract (i + 1) s.size := by rw [Lib.extract_eq, ht]
    have mixed : Tryd.prog.follows Departure.mixedOrders = true := by kernel_rfl
    have c1 : (0 : Int) ≤ ↑i := by omega
    have c2 : (↑i : Int) ≤ ↑s.size := by omega
    have c3 : (0 : Int) ≤ ↑i + 1 := by omega
    have c4 : (↑i + 1 : Int) ≤ ↑s.size := by omega
    rw [e]
    simp only
    rw [e1, e2]
    have HI := Lib.hid hi'
    clear hlt hge hsz hi ht e e1 e2 hi'
    go_enter Tryd.func55, Tryd.ntmps55
    go_wp2_with fail
    refine (Tryd.stringslite_Index_one s 47 _).mono ?_
    rintro e w' ⟨rfl, rfl⟩
    rw [HI.out]
    go_wp2_with fail
    go_region_o
    go_wp2
    go_ret3
    exact ⟨rfl, ⟨rfl, rfl, rfl, Nat.le_refl _, fun _ _ => rfl⟩⟩
  · have e : cutL s.data.toList = (s.data.toList, [], false) := by
      unfold cutL
      rw [if_neg hi]
    have hi' : Lib.indexByte s.data.toList 47 = -1 := by omega
    rw [e]
    have HI := Lib.hid hi'
    clear hlt hge hsz hi e hi'
    go_enter Tryd.func55, Tryd.ntmps55
    go_wp2_with fail
    refine (Tryd.stringslite_Index_one s 47 _).mono ?_
    rintro e w' ⟨rfl, rfl⟩
    rw [HI.out]
    go_wp2
    go_ret3
    exact ⟨rfl, Below.refl _ _⟩

set_option maxHeartbeats 1000000 in
theorem cut_c (s : ByteArray) (hs : s.size ≤ 281474976710656) (w : World) :
    Calls Tryd.prog 37 #[.string s, .string ⟨#[47]⟩] w fun e w' => e = .returned (.tuple #[.string ⟨(cutL s.data.toList).1.toArray⟩, .string ⟨(cutL s.data.toList).2.1.toArray⟩, .bool (cutL s.data.toList).2.2]) ∧ Below w.heap.size w w' := by
  have H := Lib.hid (cutl_c s hs w)
  go_enter Tryd.func37, Tryd.ntmps37
  go_wp2_with fail
  refine H.out.mono ?_
  rintro e w1 ⟨rfl, hb1⟩
  have HB := Lib.hid hb1
  clear hb1
  go_wp2
  go_ret3
  exact ⟨rfl, HB.out⟩

def ErrIn (w : World) (n : String) : Prop := ∃ tp p, w.var? Tryd.prog n = some #[.iface tp p]
/-- the two sentinels lie in their variables -/
def Es (w : World) : Prop := ErrIn w "strconv.ErrSyntax" ∧ ErrIn w "strconv.ErrRange"
theorem Es.to {w w' : World} {B : Nat} (h : Es w) (hb : Below B w w') (hB : w.heap.size ≤ B) : Es w' := by
  obtain ⟨⟨t1, p1, h1⟩, t2, p2, h2⟩ := h
  exact ⟨⟨t1, p1, Joins.var_stays (g := 5) (by kernel_rfl) h1 hb hB⟩, t2, p2, Joins.var_stays (g := 6) (by kernel_rfl) h2 hb hB⟩

theorem pint_c (s : ByteArray) (hs : s.size ≤ 281474976710656) (w : World) (hE : Es w) :
    Calls Tryd.prog 38 #[.string s, .int .i64 10, .int .i64 64] w fun e w' => (∃ (v : Int) (x : Value), e = .returned (.tuple #[.int .i64 v, x]) ∧ ((Lib.parseIntB 64 s.data.toList = .ok v ∧ x = .nilIface) ∨ ((∀ m, Lib.parseIntB 64 s.data.toList ≠ .ok m) ∧ ∃ t N, x = .iface t (.pointer (some ⟨N, 0, none⟩))))) ∧ Below w.heap.size w w' := by
  obtain ⟨⟨t1, p1, h1⟩, t2, p2, h2⟩ := hE
  cases hp : Lib.parseIntB 64 s.data.toList
  · rename_i v
    refine (Tryd.strconv_ParseInt_10_at64_ok s (by omega) v hp w).mono ?_
    rintro e w' ⟨rfl, hw⟩
    refine ⟨⟨v, _, rfl, .inl ⟨rfl, rfl⟩⟩, ?_⟩
    rcases hw with rfl | ⟨t, rfl⟩
    · exact Below.refl _ _
    · exact Joins.below_bytesWorld _ _ _ _ (Nat.le_refl _)
  · refine (Any.strconv_ParseInt_10_at64_syntax_var Tryd.laysC174 s hs hp t1 p1 w h1).mono ?_
    rintro e w' ⟨N, rfl, _, _, hb⟩
    exact ⟨⟨_, _, rfl, .inr ⟨fun m => by simp, _, N, rfl⟩⟩, hb⟩
  · refine (Any.strconv_ParseInt_10_at64_range_var Tryd.laysC174 s hs hp t2 p2 w h2).mono ?_
    rintro e w' ⟨N, rfl, _, _, hb⟩
    exact ⟨⟨_, _, rfl, .inr ⟨fun m => by simp, _, N, rfl⟩⟩, hb⟩
end Go.Proofs.YthcgcmmkajjhhaaDoor
