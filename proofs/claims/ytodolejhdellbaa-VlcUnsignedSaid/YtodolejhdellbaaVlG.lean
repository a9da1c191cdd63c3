/- make([]byte, n) inside a region that draws its order; the reference's Code. -/
import Derived.Test.YtodolejhdellbaaVlB
import Derived.OwnWalk
import Derived.Deep.RegionHeld3
import Derived.Deep.Cut
import Derived.Deep.DeepCutAuto
namespace Go.Proofs.Ytodolejhdellbaa
open Go.RowKit

theorem upon_make_u8 {w : World} {o : Oper} {a : Act} {K : Act → World → Prop} {Q : Exit → Act → World → Prop} (n : Nat) (hn : n ≤ 1000000)
    (h : ∀ A q w', w'.ownsRow w.heap.size 5 1 (.slice A n q) n (by8 (List.replicate n 0)) → Touch w w' (fun _ => False) → K (a.put o.dst (.slice A n q)) w') :
    Oper.upon Try.prog o a K Q (((Instr.makeSlice 31 (.int .i64 (n : Int)) (.int .i64 (n : Int))).run Try.prog w).andThen fun x w' => Result.ok (Next.value x) w') := by
  obtain ⟨i0, hi, hz0, hz1, hz2⟩ := info_parts Try.infoByte
  obtain ⟨w', hrun, r1, r2⟩ := run_make_full (P := Try.prog) w w.heap.size 31 5 i0 (.int .u8 0) 1 Try.underlying31 hi hz0 hz1 .i64 .i64 n (by rw [hz2]; omega) (by unfold maxLen; omega) (Nat.le_refl _)
  have e0 : (madeCells (Value.int .u8 0).cells (n * 1)).toList = by8 (List.replicate n 0) := by
    rw [Nat.mul_one]
    show (madeCells #[Value.int .u8 0] n).toList = _
    rw [toList_madeCells_one]
    unfold by8
    rw [List.map_replicate]; rfl
  rw [e0] at r1
  rw [hrun]
  exact h _ _ _ r1 (Touch.grown r2 (fun k hk => by cases hk))

theorem nat_zeros (k : Nat) : BM.nat (List.replicate k false) = List.replicate k 0 := by unfold BM.nat; rw [List.map_replicate]; rfl

set_option maxHeartbeats 1000000 in
theorem rcode_c (w : World) (n : Nat) (hn : n ≤ 65534) : Calls Try.prog 19 #[.int .i64 (n : Int)] w fun e w' =>
    ∃ A c, e = .returned (.slice A (BM.code n).length c) ∧ w'.ownsRow w.heap.size 5 1 (.slice A (BM.code n).length c) (BM.code n).length (by8 (BM.nat (BM.code n))) ∧ Touch w w' (fun _ => False) := by
  have hh := BM.hf_le n hn
  have hhalf := half_c w n hn
  have Hhalf := Lib.hid hhalf
  have hcode : BM.nat (BM.code n) = List.replicate (BM.hf n) 0 ++ BM.nat (BM.vbits (n + 1) (BM.hf n + 1)) := by rw [BM.code_split, BM.nat_app, nat_zeros]
  have hlen := BM.length_code n
  rw [hcode, hlen, by8_app, show 2 * BM.hf n + 1 = BM.hf n + (BM.hf n + 1) by omega]
  clear hcode hlen hhalf
  generalize BM.hf n = k at *
  have hw1 : IntKind.i64.wrap ((n : Int) + 1) = (n : Int) + 1 := IntWalk.i64_in _ (by omega)
  have hw2 : IntKind.u32.wrap ((n : Int) + 1) = (n : Int) + 1 := by rw [IntKind.wrap_u32]; omega
  have hw3 : IntKind.i64.wrap ((k : Int) + 1) = (k : Int) + 1 := IntWalk.i64_in _ (by omega)
  go_enter Try.func19, Try.ntmps19
  go_wp2_with fail
  refine Hhalf.out.mono ?_
  rintro e w' ⟨rfl, rfl⟩
  go_wp2_with fail
  go_region_held3 (fun _ => True) (trivial) (first | (go_at_call 39; refine (bits_c _ (n + 1) (k + 1) (by omega) (by omega)).mono ?_; rintro e wb ⟨Ab, qb, rfl, hob, htb⟩; have Hb := Lib.hid hob; have Tb := Lib.hid htb; clear hob htb) | (refine upon_make_u8 k (by omega) ?_; intro Am qm wm hom htm; have Hm := Lib.hid hom; have Tm := Lib.hid htm; clear hom htm) | (refine step_append_sl (by rfl) _ _ (by rfl) w'.heap.size _ _ k (by8 (List.replicate k 0)) (BM.nat (BM.vbits (n + 1) (k + 1))) (by rfl) (by rfl) (by first | exact own_more (own_kept Hm.out Tb.out (fun _ _ h => h)) (fun i hi => by have := (Hm.out.lt i hi).1; simpa using this) | exact own_more Hm.out (fun i hi => by have := (Hm.out.lt i hi).1; have := Tb.out.size; simp only [World.size_drew, size_drewN] at *; omega)) (by first | exact Sl.own Hb.out | exact (Sl.own Hb.out).to Tm.out (fun _ _ h => h)) (by rw [BM.length_nat, BM.length_vbits]; omega) (by have := Tb.out.size; have := Tm.out.size; simp only [World.size_drew, size_drewN] at *; omega) ?_; intro v2 w2 ho2 hg2 hat2; rw [BM.length_nat, BM.length_vbits] at ho2; obtain ⟨A2, q2, rfl⟩ := own_slice ho2; have Ho2 := Lib.hid ho2; have T2 := Lib.hid hg2; clear ho2 hg2 hat2))
  all_goals
    go_wp2
    go_ret
    refine ⟨A2, q2, rfl, Ho2.out, ?_⟩
  · have hs := Tm.out.size
    have hb := fun i hi => (Hm.out.lt i hi).1
    refine Touch.trans (S' := fun i => (Value.slice Am k qm).ownBlock = some i) (?_ : Touch w' wb (fun _ => False)) (Touch.grown (T2.out : World.grownBy wb w2 _) (fun i hi => .inl hi)) (fun i hi => .inr (by have := hb i hi; simpa using this))
    exact Touch.trans (S := fun _ => False) (S' := fun _ => False) (b := wm) (Tm.out.undrew) (Tb.out : Touch wm wb _) (fun _ e => e.elim)
  · have hs := Tb.out.size
    have hb := fun i hi => (Hm.out.lt i hi).1
    refine Touch.trans (S' := fun i => (Value.slice Am k qm).ownBlock = some i) (?_ : Touch w' wm (fun _ => False)) (Touch.grown (T2.out : World.grownBy wm w2 _) (fun i hi => .inl hi)) (fun i hi => .inr (by have := hb i hi; simp only [World.size_drew, size_drewN] at *; omega))
    exact Touch.trans (S := fun _ => False) (S' := fun _ => False) (b := wb) (Tb.out.undrew) (Tm.out : Touch wb wm _) (fun _ e => e.elim)

theorem rscode_c (w : World) (v : Int) (h1 : -32767 ≤ v) (h2 : v ≤ 32767) : Calls Try.prog 24 #[.int .i64 v] w fun e w' =>
    ∃ A c, e = .returned (.slice A (BM.cs v).length c) ∧ w'.ownsRow w.heap.size 5 1 (.slice A (BM.cs v).length c) (BM.cs v).length (by8 (BM.nat (BM.cs v))) ∧ Touch w w' (fun _ => False) := by
  have hu := runs_c w v h1 h2
  have hcs : BM.cs v = BM.code (BM.uns v).toNat := by unfold BM.cs; rw [if_pos ⟨h1, h2⟩]
  have hge := BM.uns_ge v
  have hle := BM.uns_le v h1 h2
  rw [hcs]
  obtain ⟨n, hn⟩ : ∃ n : Nat, BM.uns v = (n : Int) := ⟨(BM.uns v).toNat, by omega⟩
  rw [hn] at hu hge hle ⊢
  rw [Int.toNat_natCast]
  have hc := rcode_c w n (by omega)
  have Hu := Lib.hid hu; have Hc := Lib.hid hc
  clear hu hc hcs hn
  go_enter Try.func24, Try.ntmps24
  go_wp2_with fail
  refine Hu.out.mono ?_
  rintro e w' ⟨rfl, rfl⟩
  go_wp2_with fail
  refine Hc.out.mono ?_
  rintro e w1 ⟨A, c, rfl, ho, ht⟩
  have Ho := Lib.hid ho; have Ht := Lib.hid ht
  clear ho ht
  go_wp2
  go_ret
  exact ⟨A, c, rfl, Ho.out, Ht.out⟩
end Go.Proofs.Ytodolejhdellbaa
