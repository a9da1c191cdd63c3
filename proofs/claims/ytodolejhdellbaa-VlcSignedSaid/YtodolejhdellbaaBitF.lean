/- The reference: Bits, Payload, SameBytes. -/
import Derived.Test.YtodolejhdellbaaBitC
import Derived.Test.YtodolejhdellbaaBitM2
import Derived.BigGuard
import Derived.BigGuardPart
import Derived.Laws.BytesArg
import Derived.Lib.BufferRead
namespace Go.Proofs.Ytodolejhdellbaa
open Go.RowKit

theorem conv_c (w : World) (v : Value) (xs : List Nat) (h : Sl w v xs) : (convert 31 9 v).run Try.prog w = .ok (.string (strOfNums (xs.map Int.ofNat))) w := by
  rcases h with ⟨rfl, rfl⟩ | ⟨a, c, rfl, rfl⟩ | ⟨g, o, cap, rfl, h2, h3, h4⟩
  · exact run_convert_bytes_nil (P := Try.prog) w 31 5 Try.underlying31 Try.underlying5 0 0 _ Try.underlying9
  · rw [run_convert_bytes_string w 31 9 5 (some a) 0 c Try.underlying31 Try.underlying5 Try.underlying9, run_bytesToString w a 0 c [] (by simpa using run_loadCells_list (P := Try.prog) w a [] (fun j v hj => by simp at hj))]
    rfl
  · refine run_convert_bytes_arg (P := Try.prog) w 31 5 Try.underlying31 Try.underlying5 g o xs.length cap (xs.map Int.ofNat) (by simp) ?_ _ Try.underlying9
    intro i hi
    refine h4 i _ ?_
    unfold by8
    rw [List.getElem?_map, List.getElem?_eq_getElem hi]
    simp [List.getD, hi]

theorem same_c (w : World) (v u : Value) (xs : List Nat) (h1 : Sl w v xs) (h2 : Sl w u xs) :
    Calls Try.prog 16 #[v, u] w fun e w' => e = .returned (.bool true) ∧ w = w' := by
  have c1 := conv_c w v xs h1
  have c2 := conv_c w u xs h2
  clear h1 h2
  go_enter Try.func16, Try.ntmps16
  go_wp2
  go_ret
  exact ⟨rfl, rfl⟩

theorem by8_app (l m : List Nat) : by8 (l ++ m) = by8 l ++ by8 m := by unfold by8; rw [List.map_append]

set_option maxHeartbeats 400000 in
theorem bits_c (w : World) (x n : Nat) (hn : n ≤ 32) (hx : x < 4294967296) :
    Calls Try.prog 39 #[.int .u32 (x : Int), .int .i64 (n : Int)] w fun e w' =>
      ∃ A c, e = .returned (.slice A n c) ∧ w'.ownsRow w.heap.size 5 1 (.slice A n c) n (by8 (BM.nat (BM.vbits x n))) ∧ Touch w w' (fun _ => False) := by
  obtain ⟨i0, hi, hz0, hz1, hz2⟩ := info_parts Try.infoByte
  go_enter Try.func39, Try.ntmps39
  go_wp2_with fail
  go_loopw [5, 6] (fun v i wr => ∃ k : Nat, k ≤ n ∧ i = .int .i64 ((n : Int) - 1 - (k : Int)) ∧ wr.ownsRow w.heap.size 5 1 v k (by8 (BM.nat (BM.vbitsTo x n k))) ∧ Touch w wr (fun _ => False)) (fun _ i _ => (intOf i + 1).toNat)
  case atStart => exact ⟨0, Nat.zero_le _, by simp, World.ownsRow_nil _ _ _ _, Touch.refl _ _⟩
  case round =>
    obtain ⟨k, hk, rfl, ho, ht⟩ := hrel
    have Ht := Lib.hid ht
    have hsz := ht.size
    clear ht
    by_cases hlt : k < n
    · have harg := bit_arg x (n - 1 - k) hx
      have hcast : ((n : Int) - 1 - (k : Int)) = ((n - 1 - k : Nat) : Int) := by omega
      rw [hcast]
      have Hc := Lib.hid hcast
      clear hcast
      have hj : n - 1 - k < 32 := by omega
      generalize hjj : n - 1 - k = j at *
      have Hj := Lib.hid hjj
      have Ha := Lib.hid harg
      clear hjj harg
      have hcell := cell_one_new wr (Value.int .u8 (bits .and .u32 ((x : Int) / 2 ^ j) 1 % 256)) 5
      go_wp2_with (at_builtin; refine wpList_append_own_at _ rfl _ _ 31 rfl w.heap.size 5 i0 (.int .u8 0) 1 1 Try.underlying31 hi hz0 hz1 hz2 rfl (by decide) _ _ _ rfl (ho.alloc _) ⟨wr.heap.size, 0, none⟩ 1 1 [.int .u8 (bits .and .u32 ((x : Int) / 2 ^ j) 1 % 256)] rfl rfl hcell ?c2 ?c3 ?c4 ?c5 ?_)
      case c2 => intro u hu; simp at hu; subst hu; rfl
      case c3 => unfold maxLen; omega
      case c4 => omega
      case c5 => simp; omega
      intro v' w1 hown1 hgrow _ hat
      have hlt2 := ho.lt
      have Hl := Lib.hid hlt2
      have Ho := Lib.hid hown1
      have Hg := Lib.hid hgrow
      clear hown1 hgrow hat ho hcell hlt2
      go_wp2
      go_roundw
      case rel =>
        have e1 : ((j : Int) - 1) = (n : Int) - 1 - ((k + 1 : Nat) : Int) := by have := Hc.out; omega
        refine ⟨k + 1, by omega, by rw [e1], ?_, ?_⟩
        · have := Ho.out
          rw [Ha.out, ← Hj.out] at this
          rw [BM.vbitsTo_succ, BM.nat_app, by8_app]
          exact this
        · exact (Ht.out.alloc _).trans (Touch.grown (S := fun i => w.heap.size ≤ i) Hg.out (fun i hi => .inl (Hl.out i hi).1)) (fun i hi => .inr hi)
      case measure => simp [intOf]
    · obtain rfl : k = n := by omega
      obtain ⟨A, c, rfl⟩ := own_slice ho
      have Ho := Lib.hid ho
      clear ho
      go_wp2
      go_ret
      exact ⟨A, c, rfl, Ho.out, Ht.out⟩

theorem fill_zero (m : Nat) : (madeCells (Value.int .u8 0).cells (m * 1)).toList = by8 (BM.padb [] m) := by
  rw [BM.padb_nil, Nat.mul_one]
  show (madeCells #[Value.int .u8 0] m).toList = _
  rw [toList_madeCells_one]
  unfold by8
  rw [List.map_replicate]
  rfl

theorem top_bit (i : Nat) : (128 : Int) / 2 ^ (i % 8) = ((true.toNat <<< (7 - i % 8) : Nat) : Int) := by
  have hc : i % 8 = 0 ∨ i % 8 = 1 ∨ i % 8 = 2 ∨ i % 8 = 3 ∨ i % 8 = 4 ∨ i % 8 = 5 ∨ i % 8 = 6 ∨ i % 8 = 7 := by omega
  rcases hc with h | h | h | h | h | h | h | h <;> rw [h] <;> rfl

set_option maxHeartbeats 800000 in
theorem rpay_c (w : World) (v : Value) (l : List Bool) (h : Sl w v (BM.nat l)) (hl : l.length < 1099511627776) :
    Calls Try.prog 18 #[v] w fun e w' =>
      ∃ A c, e = .returned (.slice A (BM.pay l).length c) ∧ w'.ownsRow w.heap.size 5 1 (.slice A (BM.pay l).length c) (BM.pay l).length (by8 (BM.pay l)) ∧ Touch w w' (fun _ => False) := by
  obtain ⟨i0, hi, hz0, hz1, hz2⟩ := info_parts Try.infoByte
  have hv : ∃ A c, v = .slice A l.length c := by have := h.len; rwa [BM.length_nat] at this
  obtain ⟨A, c, rfl⟩ := hv
  have H := Lib.hid h
  clear h
  generalize hn : l.length = n at *
  have Hn := Lib.hid hn
  clear hn
  go_enter Try.func18, Try.ntmps18
  go_wp2_with (refine wpList_make_full _ rfl (.tmp 8) (.tmp 8) 31 rfl w.heap.size 5 i0 (.int .u8 0) 1 Try.underlying31 hi hz0 hz1 .i64 .i64 _ _ (n / 8 + 1) rfl rfl ?m1 ?m2 ?m3 ?m4 ?m5 ?_)
  case m1 => omega
  case m2 => omega
  case m3 => rw [hz2]; omega
  case m4 => unfold maxLen; omega
  case m5 => omega
  intro w1 ho hg
  have e0 : (madeCells #[Value.int .u8 0] (n / 8 + 1)).toList = by8 (BM.padb [] (n / 8 + 1)) := by have := fill_zero (n / 8 + 1); rwa [Nat.mul_one] at this
  rw [e0] at ho
  clear e0
  have ht0 : Touch w w1 (fun _ => False) := Touch.grown hg (fun k hk => by simp at hk)
  have Ho := Lib.hid ho
  have Ht := Lib.hid ht0
  clear ho ht0 hg
  go_wp2_with fail
  go_loopw [4] (fun i wr => ∃ k : Nat, k ≤ n + 1 ∧ i = .int .i64 (k : Int) ∧ wr.ownsRow w.heap.size 5 1 (.slice (some ⟨w.heap.size, 0, none⟩) (n / 8 + 1) (n / 8 + 1)) (n / 8 + 1) (by8 (BM.padb ((l ++ [true]).take k) (n / 8 + 1))) ∧ Touch w wr (fun _ => False)) (fun i _ => n + 1 - (intOf i).toNat)
  case atStart => exact ⟨0, by omega, rfl, by rw [List.take_zero]; exact Ho.out, Ht.out⟩
  case round =>
    obtain ⟨k, hk, rfl, ho, ht⟩ := hrel
    by_cases hlt : k < n + 1
    · have hq : k / 8 < n / 8 + 1 := by omega
      have htk : ((l ++ [true]).take k).length = k := by rw [List.length_take, List.length_append, Hn.out]; simp; omega
      have d0 := ho.cellAt (k / 8) (by omega)
      have f0 := ho.frozenAt (k / 8)
      have e0 : (by8 (BM.padb ((l ++ [true]).take k) (n / 8 + 1)))[k / 8]? = some (.int .u8 (BM.byteAt ((l ++ [true]).take k) (k / 8) : Int)) := by
        unfold by8; rw [List.getElem?_map, BM.padb_get _ _ _ hq]; rfl
      rw [e0] at d0
      have hstep := BM.take_app (l ++ [true]) k (by rw [List.length_append, Hn.out]; simp; omega)
      have hy := BM.byteAt_lt ((l ++ [true]).take k) (k / 8)
      have hset := BM.padb_app ((l ++ [true]).take k) (n / 8 + 1) true (by rw [htk]; exact hq)
      have hset0 := BM.padb_app_zero ((l ++ [true]).take k) (n / 8 + 1) (by rw [htk]; exact hq)
      rw [htk] at hset
      have htop := top_bit k
      have hor : ∀ y : Nat, y < 256 → bits .or .u8 (y : Int) (((true.toNat <<< (7 - k % 8) : Nat) : Int)) = ((y ||| (true.toNat <<< (7 - k % 8)) : Nat) : Int) := by
        intro y hy
        refine u8_or_nat y _ hy ?_
        have hc : k % 8 = 0 ∨ k % 8 = 1 ∨ k % 8 = 2 ∨ k % 8 = 3 ∨ k % 8 = 4 ∨ k % 8 = 5 ∨ k % 8 = 6 ∨ k % 8 = 7 := by omega
        rcases hc with h | h | h | h | h | h | h | h <;> rw [h] <;> decide
      have hb := BM.at_app l true k
      rw [Hn.out] at hb
      generalize BM.byteAt ((l ++ [true]).take k) (k / 8) = y at *
      have hor2 := hor y hy
      rw [← htop] at hor2
      have Hor := Lib.hid hor2
      have Hset := Lib.hid hset
      have Hset0 := Lib.hid hset0
      have Hstep := Lib.hid hstep
      have Hb := Lib.hid hb
      have Ho := Lib.hid ho
      have Ht := Lib.hid ht
      clear hor2 hset hset0 hstep hb htop hor e0 ho
      have hyes : BM.at_ (l ++ [true]) k = true → (wr.setCell ⟨w.heap.size, k / 8, none⟩ (.int .u8 (bits .or .u8 (y : Int) (128 / 2 ^ (k % 8))))).ownsRow w.heap.size 5 1 (.slice (some ⟨w.heap.size, 0, none⟩) (n / 8 + 1) (n / 8 + 1)) (n / 8 + 1) (by8 (BM.padb ((l ++ [true]).take (k + 1)) (n / 8 + 1)))
          ∧ Touch w (wr.setCell ⟨w.heap.size, k / 8, none⟩ (.int .u8 (bits .or .u8 (y : Int) (128 / 2 ^ (k % 8))))) (fun _ => False) := by
        intro hb1
        rw [Hor.out, Hstep.out, hb1, Hset.out, ← by8_set]
        exact ⟨(Ho.out.stored (k / 8) _).1, Ht.out.store (.inr (Nat.le_refl _)) _⟩
      have hno : BM.at_ (l ++ [true]) k = false → wr.ownsRow w.heap.size 5 1 (.slice (some ⟨w.heap.size, 0, none⟩) (n / 8 + 1) (n / 8 + 1)) (n / 8 + 1) (by8 (BM.padb ((l ++ [true]).take (k + 1)) (n / 8 + 1))) := by
        intro hb1
        rw [Hstep.out, hb1, Hset0.out]
        exact Ho.out
      have Hyes := Lib.hid hyes
      have Hno := Lib.hid hno
      clear hyes hno htk
      by_cases hkn : k = n
      · have hb1 : BM.at_ (l ++ [true]) k = true := by rw [Hb.out, if_pos hkn]
        have Hb1 := Lib.hid hb1
        clear hb1
        subst hkn
        go_wp2_with fail
        go_roundw
        case rel => exact ⟨k + 1, by omega, by go_num, (Hyes.out Hb1.out).1, (Hyes.out Hb1.out).2⟩
        case measure => (simp [intOf]; done)
      · have hg1 : (((k : Nat) : Int) == (n : Int)) = false := beq_eq_false_iff_ne.2 (by omega)
        have hs : Sl wr (.slice A n c) (BM.nat l) := H.out.to Ht.out (fun _ _ e => e)
        have hA : ∃ g o, A = some ⟨g, o, none⟩ := by
          rcases hs with ⟨e, _⟩ | ⟨a, c, e, _⟩ | ⟨g, o, cap, e, _⟩
          · injection e with _ e; omega
          · injection e with _ e; omega
          · injection e with e; exact ⟨g, o, e⟩
        obtain ⟨g, o, rfl⟩ := hA
        have hc := Sl.at_ hs k (by rw [BM.length_nat, Hn.out]; omega)
        rw [BM.nat_getD] at hc
        have hb2 := Hb.out
        rw [if_neg hkn] at hb2
        rw [← hb2] at hc
        clear hs hb2
        have hkl : k < n := by omega
        generalize BM.at_ (l ++ [true]) k = b at *
        have Hc := Lib.hid hc
        clear hc
        cases b
        · have hc : wr.cell? ⟨g, o + k, none⟩ = some (.int .u8 0) := Hc.out
          go_wp2_with fail
          go_roundw
          case rel => exact ⟨k + 1, by omega, by go_num, Hno.out rfl, Ht.out⟩
          case measure => simp [intOf]; omega
        · have hc : wr.cell? ⟨g, o + k, none⟩ = some (.int .u8 1) := Hc.out
          go_wp2_with fail
          go_roundw
          case rel => exact ⟨k + 1, by omega, by go_num, (Hyes.out rfl).1, (Hyes.out rfl).2⟩
          case measure => simp [intOf]; omega
    · obtain rfl : k = n + 1 := by omega
      have Ho := Lib.hid ho
      have Ht := Lib.hid ht
      clear ho ht
      go_wp2
      go_ret
      have e1 : (l ++ [true]).take (n + 1) = l ++ [true] := List.take_of_length_le (by rw [List.length_append, Hn.out]; simp)
      have e2 : BM.padb (l ++ [true]) (n / 8 + 1) = BM.pay l := by have := BM.padb_all l; rwa [Hn.out] at this
      have e3 : (BM.pay l).length = n / 8 + 1 := by rw [← e2, BM.length_padb]
      have ho := Ho.out
      rw [e1, e2] at ho
      rw [e3]
      exact ⟨_, _, rfl, ho, Ht.out⟩
end Go.Proofs.Ytodolejhdellbaa
