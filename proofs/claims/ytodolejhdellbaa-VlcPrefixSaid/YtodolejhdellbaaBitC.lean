/- slices.Clone of bytes; Writer.Payload. -/
import Derived.Test.YtodolejhdellbaaBitP
import Derived.Deep.RegionHeld3
import Derived.WalkSpells
import Derived.Deep.Cut
import Derived.Deep.DeepCutAuto
namespace Go.Proofs.Ytodolejhdellbaa
open Go.RowKit

/-- v is a slice that reads as the bytes bs -/
def Sl (w : World) (v : Value) (bs : List Nat) : Prop :=
  (v = .slice none 0 0 ∧ bs = []) ∨ (∃ a c, v = .slice (some a) 0 c ∧ bs = []) ∨ ∃ g o cap, v = .slice (some ⟨g, o, none⟩) bs.length cap ∧ bs.length ≤ cap ∧ g < w.heap.size ∧ ∀ j u, (by8 bs)[j]? = some u → w.cell? ⟨g, o + j, none⟩ = some u

theorem add_at (g o j : Nat) : (⟨g, o, none⟩ : Addr).add j = ⟨g, o + j, none⟩ := by
  unfold Addr.add; split <;> simp_all
theorem Sl.own {w : World} {base n : Nat} {v : Value} {bs : List Nat} (h : w.ownsRow base 5 1 v n (by8 bs)) : Sl w v bs := by
  have hl : bs.length = n := by have := h.1; unfold by8 at this; simpa using this
  subst hl
  rcases h.2 with ⟨rfl, h2⟩ | ⟨g, cap, cur, rfl, hb, hg, h3, h4, h5⟩
  · exact .inl ⟨rfl, List.eq_nil_of_length_eq_zero h2⟩
  · exact .inr (.inr ⟨g, 0, cap, rfl, h3, (Array.getElem?_eq_some_iff.1 hg).1, fun j u hu => by rw [← add_at]; exact h.cells (g := g) rfl j u hu⟩)
theorem Sl.to {w w' : World} {v : Value} {bs : List Nat} {S : Nat → Prop} (h : Sl w v bs) (k : Touch w w' S) (hS : ∀ i, v.ownBlock = some i → ¬ S i) : Sl w' v bs := by
  rcases h with h | h | ⟨g, o, cap, rfl, h2, h3, h4⟩
  · exact .inl h
  · exact .inr (.inl h)
  · exact .inr (.inr ⟨g, o, cap, rfl, h2, Nat.lt_of_lt_of_le h3 k.size, fun j u hu => (k.cell (p := ⟨g, o + j, none⟩) h3 (hS g rfl)).trans (h4 j u hu)⟩)
theorem Sl.len {w : World} {v : Value} {bs : List Nat} (h : Sl w v bs) : ∃ A c, v = .slice A bs.length c := by
  rcases h with ⟨rfl, rfl⟩ | ⟨a, c, rfl, rfl⟩ | ⟨g, o, cap, rfl, _⟩
  · exact ⟨_, _, rfl⟩
  · exact ⟨_, _, rfl⟩
  · exact ⟨_, _, rfl⟩
theorem Sl.at_ {w : World} {g o n cap : Nat} {bs : List Nat} (h : Sl w (.slice (some ⟨g, o, none⟩) n cap) bs) (i : Nat) (hi : i < bs.length) : w.cell? ⟨g, o + i, none⟩ = some (.int .u8 ((bs.getD i 0 : Nat) : Int)) := by
  rcases h with ⟨h, _⟩ | ⟨_, _, _, h⟩ | ⟨g', o', cap', hv, _, _, h4⟩
  · simp at h
  · subst h; simp at hi
  · simp only [Value.slice.injEq, Option.some.injEq, Addr.mk.injEq, and_true] at hv
    obtain ⟨⟨rfl, rfl⟩, _, _⟩ := hv
    refine h4 i _ ?_
    unfold by8
    rw [List.getElem?_map, List.getElem?_eq_getElem hi]
    simp [List.getD, hi]

theorem by8_one (bs : List Nat) : ∀ u ∈ by8 bs, u.oneCell' = true := by
  intro u hu
  unfold by8 at hu
  simp only [List.mem_map] at hu
  obtain ⟨n, _, rfl⟩ := hu
  rfl
theorem length_by8 (bs : List Nat) : (by8 bs).length = bs.length := by simp [by8]

set_option maxHeartbeats 400000 in
theorem clone_c (w : World) (v : Value) (bs : List Nat) (h : Sl w v bs) (hlen : bs.length ≤ 140737488355328) :
    Calls Try.prog 37 #[v] w fun e w' => ∃ A c, e = .returned (.slice A bs.length c) ∧ w'.ownsRow w.heap.size 5 1 (.slice A bs.length c) bs.length (by8 bs) ∧ Touch w w' (fun _ => False) := by
  have key : ∀ (ad : Addr) (n cap : Nat), v = .slice (some ad) n cap → n = bs.length → (∀ j u, (by8 bs)[j]? = some u → (w.alloc (Obj.cells #[] 5)).cell? (ad.add j) = some u) →
      Calls Try.prog 37 #[v] w fun e w' => ∃ A c, e = .returned (.slice A bs.length c) ∧ w'.ownsRow w.heap.size 5 1 (.slice A bs.length c) bs.length (by8 bs) ∧ Touch w w' (fun _ => False) := by
    intro ad n cap hv hn hcell
    subst hv
    obtain ⟨i0, hi, hz0, hz1, hz2⟩ := info_parts Try.infoByte
    have Hcell := Lib.hid hcell
    have Hn := Lib.hid hn.symm
    rw [← hn] at hlen ⊢
    clear hcell hn h
    have hnil := fun (w : World) => Lib.run_eql_slice_nil (P := Try.prog) w 31 5 (some ad) n cap 0 0 Try.underlying31
    simp only [Option.isNone] at hnil
    go_enter Try.func37, Try.ntmps37
    go_wp2_with (at_builtin; refine wpList_append_own_at _ rfl _ _ 31 rfl w.heap.size 5 i0 (.int .u8 0) 1 1 Try.underlying31 hi hz0 hz1 hz2 rfl (by decide) _ 0 [] rfl ?c0 ad n cap (by8 bs) rfl ?cl ?c1 ?c2 ?c3 ?c4 ?c5 ?_)
    case c0 => exact World.ownsRow_made w #[] 0 (Nat.le_refl _) (by unfold maxLen; omega) rfl
    case cl => rw [length_by8, Hn.out]; omega
    case c1 => exact Hcell.out
    case c2 => exact by8_one bs
    case c3 => unfold maxLen; omega
    case c4 => omega
    case c5 => simp
    intro v' w1 hown1 hgrow _ hat
    obtain ⟨A, c, rfl⟩ := own_slice hown1
    have Ho := Lib.hid hown1
    have Hg := Lib.hid hgrow
    clear hown1 hgrow hat
    go_wp2
    go_ret
    refine ⟨A, c, by simp, by simpa using Ho.out, ?_⟩
    refine Touch.trans (S' := fun k => k = w.heap.size) ((Touch.refl w _).alloc _) (Touch.grown Hg.out (fun k hk => .inl (by simp [Value.ownBlock] at hk; omega))) (fun i hi => .inr (by omega))
  rcases h with ⟨rfl, rfl⟩ | ⟨a, c, rfl, rfl⟩ | ⟨gs, os, cap, rfl, hcap, hlt, hcell⟩
  · have hnil := fun (w : World) => Lib.run_eql_slice_nil (P := Try.prog) w 31 5 none 0 0 0 0 Try.underlying31
    go_enter Try.func37, Try.ntmps37
    go_wp2
    go_ret
    exact ⟨none, 0, rfl, World.ownsRow_nil _ _ _ _, Touch.refl _ _⟩
  · exact key a 0 c rfl rfl (fun j u hj => by simp [by8] at hj)
  · exact key ⟨gs, os, none⟩ bs.length cap rfl rfl (fun j u hj => by rw [add_at, World.cell?_of_block (Below.heap_alloc w _ gs hlt)]; exact hcell j u hj)

theorem wr_made1 {w w1 : World} {v1 : Value} {l : List Bool} (ho : w1.ownsRow w.heap.size 5 1 v1 (BM.fill l).length (by8 (BM.fill l))) (ht : Touch w w1 (fun _ => False)) :
    Wr (w1.alloc (.cells #[v1, .int .i64 (l.length : Int)] 55)) w.heap.size w1.heap.size v1 l ∧ Touch w (w1.alloc (.cells #[v1, .int .i64 (l.length : Int)] 55)) (fun _ => False) := by
  refine ⟨⟨ht.size, Cel.made _ _ _, ?_⟩, ht.alloc _⟩
  rw [BM.length_fill] at ho
  exact ho.alloc _
theorem wr_made2 {w w1 : World} {x0 x1 v1 : Value} {l : List Bool} (ho : w1.ownsRow (w.heap.size + 1) 5 1 v1 (BM.fill l).length (by8 (BM.fill l))) (ht : Touch (w.alloc (.cells #[x0, x1] 55)) w1 (fun _ => False)) :
    Wr ((w1.setCell ⟨w.heap.size, 0, none⟩ v1).setCell ⟨w.heap.size, 1, none⟩ (.int .i64 (l.length : Int))) w.heap.size w.heap.size v1 l ∧ Touch w ((w1.setCell ⟨w.heap.size, 0, none⟩ v1).setCell ⟨w.heap.size, 1, none⟩ (.int .i64 (l.length : Int))) (fun _ => False) := by
  have c := (Cel.made w 55 #[x0, x1]).kept ht (fun e => e)
  have c2 := (c.store 0 v1).store 1 (.int .i64 (l.length : Int))
  have hs : w.heap.size < w1.heap.size := c.lt
  have t0 : Touch w1 ((w1.setCell ⟨w.heap.size, 0, none⟩ v1).setCell ⟨w.heap.size, 1, none⟩ (.int .i64 (l.length : Int))) (fun k => k = w.heap.size) :=
    Touch.store (S := fun k => k = w.heap.size) (Touch.store (S := fun k => k = w.heap.size) (Touch.refl _ _) (p := ⟨w.heap.size, 0, none⟩) (.inl rfl) _) (p := ⟨w.heap.size, 1, none⟩) (.inl rfl) _
  rw [BM.length_fill] at ho
  refine ⟨⟨Nat.le_refl _, by simpa using c2, ?_⟩, ?_⟩
  · exact own_more (own_kept ho t0 (fun i hi e => by have := ho.lt i hi; omega)) (fun i hi => by have := ho.lt i hi; omega)
  · exact (((Touch.refl w _).alloc _).trans ht (fun i hi => hi.elim)).trans t0 (fun i hi => .inr (by omega))

set_option linter.unusedSimpArgs false in
set_option maxHeartbeats 400000 in
theorem payload_c (w : World) (base g : Nat) (v : Value) (l : List Bool) (h : Wr w base g v l) (hl : l.length < 1099511627776) :
    Calls Try.prog 17 #[.pointer (some ⟨g, 0, none⟩)] w fun e w' => ∃ A c, e = .returned (.slice A (BM.pay l).length c) ∧ w'.ownsRow w.heap.size 5 1 (.slice A (BM.pay l).length c) (BM.pay l).length (by8 (BM.pay l)) ∧ Touch w w' (fun _ => False) := by
  have c0 := h.cel.cell 0
  have c1 := h.cel.cell 1
  have f0 := h.cel.free 0
  have f1 := h.cel.free 1
  have hlg := h.cel.lt
  simp at c0 c1
  have hsl := Sl.own h.own
  have hbl : (BM.fill l).length ≤ 140737488355328 := by rw [BM.length_fill]; unfold BM.nb; omega
  have Hsl := Lib.hid hsl
  have Hw := Lib.hid h
  have Hbl := Lib.hid hbl
  clear hsl hbl h
  go_enter Try.func17, Try.ntmps17
  go_wp2_with fail
  go_upto_region 3 with fail
  go_cut [3] (fun s3 wx => ∃ G v', s3 = .pointer (some ⟨G, 0, none⟩) ∧ Wr wx w.heap.size G v' l ∧ Touch w wx (fun _ => False))
  case first =>
    go_region_held3 (fun w' => w'.cell? ⟨g, 0, none⟩ = some v ∧ w'.cell? ⟨g, 1, none⟩ = some (.int .i64 (l.length : Int)) ∧ g < w'.heap.size) ((go_split_ands; refine ⟨?_, ?_, ?_⟩ <;> (first | (with_reducible assumption) | exact c0 | exact c1 | exact hlg | (first | omega | (simp only [World.size_alloc, World.size_setCell, World.size_drew, size_drewN]; omega)) | ((repeat (first | (refine (World.cell?_alloc_lt _ _ _ ?_).trans ?_; focus (dsimp only; (first | omega | (simp only [World.size_alloc, World.size_setCell, World.size_drew, size_drewN]; omega)))) | (refine (World.cell?_setCell_far _ _ _ _ ?_).trans ?_; focus (dsimp only; (first | omega | (simp only [World.size_alloc, World.size_setCell, World.size_drew, size_drewN]; omega)))))); (first | (with_reducible assumption) | exact c0 | exact c1 | exact hlg))))) (first | (go_at_call 37; refine (clone_c _ v _ (Hsl.out.to (S := fun _ => False) (by first | exact Touch.refl _ _ | exact (Touch.refl _ _).drewN _ | exact (Touch.refl _ _).alloc _ | exact ((Touch.refl _ _).alloc _).drewN _ | exact ((Touch.refl _ _).drewN _).alloc _ | exact ((Touch.refl _ _).alloc _).drew | exact (Touch.refl _ _).drew) (fun _ _ e => e)) Hbl.out).mono ?_; rintro e w1 ⟨A1, q1, rfl, ho1, ht1⟩; have Ho1 := Lib.hid ho1; have Ht1 := Lib.hid ht1; have hs1 := ht1.size; (try simp only [World.size_alloc, World.size_setCell, World.size_drew, size_drewN] at hs1); have k0 : w1.cell? ⟨g, 0, none⟩ = some v := (ht1.cell (p := ⟨g, 0, none⟩) (by first | omega | (simp only [World.size_alloc, World.size_setCell, World.size_drew, size_drewN]; omega)) (fun h => h)).trans (by first | assumption | (go_simp; done)); have k1 : w1.cell? ⟨g, 1, none⟩ = some (.int .i64 (l.length : Int)) := (ht1.cell (p := ⟨g, 1, none⟩) (by first | omega | (simp only [World.size_alloc, World.size_setCell, World.size_drew, size_drewN]; omega)) (fun h => h)).trans (by first | assumption | (go_simp; done)); have hc1 := touch_cell ht1; have hf1 := touch_free ht1; (try simp only [World.size_alloc, World.size_setCell, World.size_drew, size_drewN] at hc1 hf1); clear ho1 ht1))
    all_goals (go_wp2_with fail; go_meet)
    · obtain ⟨h1, h2⟩ := wr_made1 (w := w) Ho1.out Ht1.out.undrew
      exact ⟨_, _, rfl, h1, h2⟩
    · obtain ⟨h1, h2⟩ := wr_made2 (w := w) (by simpa using Ho1.out) Ht1.out.undrew
      exact ⟨_, _, rfl, h1, h2⟩
  case rest =>
    obtain ⟨G, v', rfl, hW, hT⟩ := hcut
    go_wp2_with fail
    refine (add_c _ _ G _ _ true hW hl).mono ?_
    rintro e w2 ⟨rfl, v2, hG⟩
    have d0 := hG.wr.cel.cell 0
    simp at d0
    have ho := hG.wr.own
    obtain ⟨A, c, rfl⟩ := own_slice ho
    have HG := Lib.hid hG
    have Ho := Lib.hid ho
    have HT := Lib.hid hT
    have HW := Lib.hid hW
    clear hG ho hT hW
    go_wp2
    go_ret
    have e1 : (BM.pay l).length = BM.nb (l ++ [true]).length := by unfold BM.pay; rw [BM.length_fill]
    rw [e1]
    refine ⟨A, c, by rw [show (l ++ [true]).length = l.length + 1 from by simp]; rfl, Ho.out, ?_⟩
    refine HT.out.trans HG.out.touch ?_
    intro i hi
    have hb := HW.out.from_
    rcases hi with rfl | hi
    · exact .inr hb
    · exact .inr (HW.out.own.lt i hi).1
end Go.Proofs.Ytodolejhdellbaa
