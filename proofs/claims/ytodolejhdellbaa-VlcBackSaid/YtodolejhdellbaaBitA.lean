/- Writer.add: one bit more. -/
import Derived.Test.YtodolejhdellbaaProg
import Derived.Test.YtodolejhdellbaaBitM
import Derived.Test.YtodolejhdellbaaBitW
import Derived.WalkKit
import Derived.RegionTactic
import Derived.BigRegion
import Derived.ChangeAlike
import Derived.Laws.BitsAllLaws
import Derived.OwnWalk
import Derived.Maps.AppendAt
import Derived.Outline
namespace Go.Proofs.Ytodolejhdellbaa
open Go.RowKit

theorem Try.infoByte : (Try.prog.info? 5).map (fun i => (i.zero, i.size, i.bytes)) = some (some (.int .u8 0), 1, 1) := by kernel_rfl

/-- the cells of a list of bytes -/
def by8 (l : List Nat) : List Value := l.map fun (n : Nat) => .int .u8 (n : Int)

/-- block g is a writer of the bits l whose bytes are v; all from 'base' on -/
structure Wr (w : World) (base g : Nat) (v : Value) (l : List Bool) : Prop where
  from_ : base ≤ g
  cel : Cel w g 55 #[v, .int .i64 (l.length : Int)]
  own : w.ownsRow base 5 1 v (BM.nb l.length) (by8 (BM.fill l))

theorem Wr.drewN {w : World} {base g : Nat} {v : Value} {l : List Bool} (h : Wr w base g v l) (n : Nat) : Wr (w.drewN n) base g v l := ⟨h.from_, h.cel, h.own⟩
theorem Wr.drew {w : World} {base g : Nat} {v : Value} {l : List Bool} (h : Wr w base g v l) : Wr w.drew base g v l := ⟨h.from_, h.cel, h.own⟩
/-- what a writer at g with the bytes v may turn -/
def foot (g : Nat) (v : Value) (k : Nat) : Prop := k = g ∨ v.ownBlock = some k

/-- what one step of a writer leaves -/
structure Grew (w w' : World) (base g : Nat) (v v' : Value) (l : List Bool) : Prop where
  wr : Wr w' base g v' l
  row : v'.ownBlock = v.ownBlock ∨ ∃ k, v'.ownBlock = some k ∧ w.heap.size ≤ k
  touch : Touch w w' (foot g v)

theorem Grew.undrew {w w' : World} {base g : Nat} {v v' : Value} {l : List Bool} (h : Grew w.drew w' base g v v' l) : Grew w w' base g v v' l := ⟨h.wr, h.row, h.touch.undrew⟩
theorem Grew.undrewN {w w' : World} {n base g : Nat} {v v' : Value} {l : List Bool} (h : Grew (w.drewN n) w' base g v v' l) : Grew w w' base g v v' l := ⟨h.wr, h.row, h.touch.undrewN⟩
theorem Grew.foot_ {w w' : World} {base g : Nat} {v v' : Value} {l : List Bool} (h : Grew w w' base g v v' l) (k : Nat) (hk : foot g v' k) : foot g v k ∨ w.heap.size ≤ k := by
  rcases hk with rfl | hk
  · exact .inl (.inl rfl)
  · rcases h.row with e | ⟨j, e, hj⟩
    · exact .inl (.inr (e ▸ hk))
    · rw [e] at hk
      injection hk with hk
      exact .inr (hk ▸ hj)
theorem Grew.trans {w w1 w2 : World} {base g : Nat} {v v1 v2 : Value} {l l2 : List Bool} (h : Grew w w1 base g v v1 l) (k : Grew w1 w2 base g v1 v2 l2) : Grew w w2 base g v v2 l2 := by
  refine ⟨k.wr, ?_, h.touch.trans k.touch h.foot_⟩
  rcases k.row with e | ⟨j, e, hj⟩
  · rw [e]; exact h.row
  · exact .inr ⟨j, e, Nat.le_trans h.touch.size hj⟩

theorem or_byte (y k : Nat) (b : Bool) (hy : y < 256) (hk : k ≤ 7) : bits .or .u8 (y : Int) ((b.toNat : Int) * 2 ^ k % 256) = ((y ||| b.toNat <<< k : Nat) : Int) := by
  have e : ((b.toNat : Int) * 2 ^ k % 256) = ((b.toNat <<< k : Nat) : Int) := by
    have : ∀ (b : Bool) (k : Nat), k < 8 → ((b.toNat : Int) * 2 ^ k % 256) = ((b.toNat <<< k : Nat) : Int) := by
      intro b k hk
      have hc : k = 0 ∨ k = 1 ∨ k = 2 ∨ k = 3 ∨ k = 4 ∨ k = 5 ∨ k = 6 ∨ k = 7 := by omega
      rcases hc with rfl | rfl | rfl | rfl | rfl | rfl | rfl | rfl <;> cases b <;> rfl
    exact this b k (by omega)
  rw [e]
  refine u8_or_nat y _ hy ?_
  have : ∀ (b : Bool) (k : Nat), k < 8 → b.toNat <<< k < 256 := by
    intro b k hk
    have hc : k = 0 ∨ k = 1 ∨ k = 2 ∨ k = 3 ∨ k = 4 ∨ k = 5 ∨ k = 6 ∨ k = 7 := by omega
    rcases hc with rfl | rfl | rfl | rfl | rfl | rfl | rfl | rfl <;> cases b <;> decide
  exact this b k (by omega)

/-- the two stores of 'add' -/
theorem Wr.stored {w : World} {base g gr cap m : Nat} {l : List Bool} {b : Bool} {xs : List Value} {u x : Value} (hb : base ≤ g) (hx : x = .int .i64 ((l.length + 1 : Nat) : Int))
    (hc : Cel w g 55 #[.slice (some ⟨gr, 0, none⟩) m cap, .int .i64 (l.length : Int)])
    (ho : w.ownsRow base 5 1 (.slice (some ⟨gr, 0, none⟩) m cap) m xs) (hm : m = BM.nb (l.length + 1)) (he : xs.set (l.length / 8) u = by8 (BM.fill (l ++ [b]))) :
    Wr (((w.setCell ⟨gr, l.length / 8, none⟩ u).setCell ⟨g, 1, none⟩ x).drew) base g (.slice (some ⟨gr, 0, none⟩) m cap) (l ++ [b])
    ∧ Touch w (((w.setCell ⟨gr, l.length / 8, none⟩ u).setCell ⟨g, 1, none⟩ x).drew) (foot g (.slice (some ⟨gr, 0, none⟩) m cap)) := by
  have hne : gr ≠ g := by
    have := own_apart ho hc (by decide)
    simpa [Value.ownBlock] using this
  have t1 : Touch w (w.setCell ⟨gr, l.length / 8, none⟩ u) (fun k => k = gr) := Touch.store (S := fun k => k = gr) (Touch.refl w _) (p := ⟨gr, l.length / 8, none⟩) (.inl rfl) u
  have t2 : Touch (w.setCell ⟨gr, l.length / 8, none⟩ u) ((w.setCell ⟨gr, l.length / 8, none⟩ u).setCell ⟨g, 1, none⟩ x) (fun k => k = g) := Touch.store (S := fun k => k = g) (Touch.refl _ _) (p := ⟨g, 1, none⟩) (.inl rfl) x
  refine ⟨⟨hb, ?_, ?_⟩, ?_⟩
  · have c1 := (hc.kept t1 (fun e => hne e.symm)).store 1 x
    subst hx
    show Cel ((w.setCell ⟨gr, l.length / 8, none⟩ u).setCell ⟨g, 1, none⟩ (.int .i64 ((l.length + 1 : Nat) : Int))) g _ _
    simpa using c1
  · have o1 := (ho.stored (l.length / 8) u).1
    rw [he, hm] at o1
    have o2 := own_kept o1 t2 (by intro i hi e; simp [Value.ownBlock] at hi; omega)
    rw [← hm] at o2
    show World.ownsRow ((w.setCell ⟨gr, l.length / 8, none⟩ u).setCell ⟨g, 1, none⟩ x) _ _ _ _ _ _
    simpa [← hm] using o2
  · refine Touch.drew (Touch.store (Touch.store (Touch.refl w _) (.inl (.inr rfl)) u) (.inl (.inl rfl)) x)

theorem by8_set (l : List Nat) (i : Nat) (n : Nat) : (by8 l).set i (.int .u8 (n : Int)) = by8 (l.set i n) := by
  unfold by8; rw [List.map_set]

set_option maxHeartbeats 400000 in
theorem add_old (w : World) (base g : Nat) (v : Value) (l : List Bool) (b : Bool) (h : Wr w base g v l) (hl : l.length < 1099511627776) (hr : l.length % 8 ≠ 0) :
    Calls Try.prog 38 #[.pointer (some ⟨g, 0, none⟩), .int .u8 (b.toNat : Int)] w fun e w' =>
      e = .returned (.tuple #[]) ∧ Grew w w' base g v v (l ++ [b]) := by
  obtain ⟨gr, cap, rfl, hbg, hlt, hcap, hmax, hcell, hfree⟩ := own_some h.own (by unfold BM.nb; omega)
  have c0 := h.cel.cell 0
  have c1 := h.cel.cell 1
  have f0 := h.cel.free 0
  have f1 := h.cel.free 1
  simp at c0 c1
  have hq : l.length / 8 < BM.nb l.length := by unfold BM.nb; omega
  have c2 := hcell (l.length / 8) (by omega)
  have f2 := hfree (l.length / 8)
  have e2 : (by8 (BM.fill l))[l.length / 8]? = some (.int .u8 (BM.byteAt l (l.length / 8) : Int)) := by
    unfold by8; rw [List.getElem?_map, BM.fill_get _ _ hq]; rfl
  rw [e2] at c2
  have hne : gr ≠ g := by
    have := own_apart h.own h.cel (by decide)
    simpa [Value.ownBlock] using this
  have hby := BM.byteAt_lt l (l.length / 8)
  have hfin := fun x hx => Wr.stored (x := x) (b := b) (u := .int .u8 ((BM.byteAt l (l.length / 8) ||| b.toNat <<< (7 - l.length % 8) : Nat) : Int)) h.from_ hx h.cel h.own (by unfold BM.nb; omega) (by rw [by8_set, BM.fill_app_old l b hr])
  have hor := or_byte (BM.byteAt l (l.length / 8)) (7 - l.length % 8) b hby (by omega)
  generalize hn : l.length = n at *
  generalize hy : BM.byteAt l (n / 8) = y at *
  have Hn := Lib.hid hn
  have Hy := Lib.hid hy
  have Hfin := Lib.hid hfin
  have Hor := Lib.hid hor
  clear hn hy hcell hfree e2 hfin hor
  have hr' : (((n : Int) % 8 == 0) = false) := by simp; omega
  go_enter Try.func38, Try.ntmps38
  go_wp2_with fail
  go_region
  go_wp2
  go_end0
  rw [Hor.out]
  obtain ⟨k1, k2⟩ := Hfin.out (.int .i64 ((n : Int) + 1)) (by simp)
  exact ⟨rfl, k1, .inl rfl, k2⟩

set_option maxHeartbeats 400000 in
theorem add_new (w : World) (base g : Nat) (v : Value) (l : List Bool) (b : Bool) (h : Wr w base g v l) (hl : l.length < 1099511627776) (hr : l.length % 8 = 0) :
    Calls Try.prog 38 #[.pointer (some ⟨g, 0, none⟩), .int .u8 (b.toNat : Int)] w fun e w' =>
      e = .returned (.tuple #[]) ∧ ∃ v', Grew w w' base g v v' (l ++ [b]) := by
  obtain ⟨i0, hi, hz0, hz1, hz2⟩ := info_parts Try.infoByte
  have c0 := h.cel.cell 0
  have c1 := h.cel.cell 1
  have f0 := h.cel.free 0
  have f1 := h.cel.free 1
  simp at c0 c1
  have Hw := Lib.hid h
  have hown := h.own
  have hbase : base ≤ w.heap.size := by have := h.cel.lt; have := h.from_; omega
  have hr' : (((l.length : Int) % 8 == 0) = true) := by simp; omega
  generalize hn : l.length = n at *
  have Hn := Lib.hid hn
  clear hn h
  go_enter Try.func38, Try.ntmps38
  go_wp2_with (at_builtin; refine wpList_append_own_at _ rfl _ _ 31 rfl base 5 i0 (.int .u8 0) 1 1 Try.underlying31 hi hz0 hz1 hz2 rfl (by decide) _ _ _ rfl (hown.alloc _) ⟨w.heap.size, 0, none⟩ 1 1 [.int .u8 0] rfl rfl ?c1 ?c2 ?c3 ?c4 ?c5 ?_)
  case c1 => exact cell_one_new _ _ _
  case c2 => intro u hu; simp at hu; subst hu; rfl
  case c3 => unfold maxLen BM.nb; omega
  case c4 => unfold BM.nb; omega
  case c5 => simp; omega
  intro v' w1 hown1 hgrow _ hat
  have hw := Hw.out
  obtain ⟨gr, cap, rfl, hbg, hlt, hcap, hmax, hcell, hfree⟩ := own_some hown1 (by omega)
  have hlg := hw.cel.lt
  have hgo := own_apart hw.own hw.cel (by decide)
  have hcel1 : Cel w1 g 55 #[v, .int .i64 (n : Int)] := by
    have := hw.cel
    rw [Hn.out] at this
    unfold Cel at this ⊢
    rw [hgrow.block g (by simp; omega) (fun e => hgo e.symm), Below.heap_alloc _ _ _ hlg]
    exact this
  have hne : gr ≠ g := by
    have := own_apart hown1 hcel1 (by decide)
    simpa [Value.ownBlock] using this
  have d0 := hcel1.cell 0
  have e0 := hcel1.free 0
  simp at d0
  have Hg := Lib.hid hgrow
  have Ho := Lib.hid hown1
  have Hat := Lib.hid hat
  have Hc := Lib.hid hcel1
  clear hgrow hown1 hat hcell hfree hown hcel1 c0 c1 f0 f1 hgo hlg
  go_wp2
  have t1 : Touch w1 (w1.setCell ⟨g, 0, none⟩ (.slice (some ⟨gr, 0, none⟩) (BM.nb n + 1) cap)) (fun k => k = g) := Touch.store (S := fun k => k = g) (Touch.refl _ _) (p := ⟨g, 0, none⟩) (.inl rfl) _
  have hc2 := Hc.out.store 0 (.slice (some ⟨gr, 0, none⟩) (BM.nb n + 1) cap)
  have ho2 := own_kept Ho.out t1 (by intro i hi e; simp [Value.ownBlock] at hi; omega)
  have hc3 : Cel (w1.setCell ⟨g, 0, none⟩ (.slice (some ⟨gr, 0, none⟩) (BM.nb n + 1) cap)) g 55 #[.slice (some ⟨gr, 0, none⟩) (BM.nb n + 1) cap, .int .i64 (n : Int)] := by simpa using hc2
  have ht2 := t1
  clear hc2 t1
  generalize w1.setCell ⟨g, 0, none⟩ (.slice (some ⟨gr, 0, none⟩) (BM.nb n + 1) cap) = w2 at *
  clear d0 e0
  have d0 := hc3.cell 0
  have d1 := hc3.cell 1
  have e0 := hc3.free 0
  have e1 := hc3.free 1
  have hq : n / 8 < BM.nb n + 1 := by unfold BM.nb; omega
  have hqq : n / 8 = BM.nb n := by unfold BM.nb; omega
  have c2 : w2.cell? ⟨gr, n / 8, none⟩ = some (.int .u8 (0 : Int)) := by
    rw [ho2.cellAt (n / 8) (by omega), List.getElem?_append_right (by unfold by8; rw [List.length_map, BM.length_fill, Hn.out]; omega)]
    unfold by8
    rw [List.length_map, BM.length_fill, Hn.out, hqq]
    simp
  have f2 := ho2.frozenAt (n / 8)
  simp at d0 d1
  have hor : bits .or .u8 0 ((b.toNat : Int) * 128 % 256) = ((0 ||| b.toNat <<< (7 - n % 8) : Nat) : Int) := by
    rw [hr]; exact or_byte 0 7 b (by decide) (by decide)
  have hset : (by8 (BM.fill l) ++ [Value.int .u8 0]).set (n / 8) (.int .u8 ((0 ||| b.toNat <<< (7 - n % 8) : Nat) : Int)) = by8 (BM.fill (l ++ [b])) := by
    have e := BM.fill_app_new l b (by rw [Hn.out]; exact hr)
    rw [Hn.out] at e
    rw [e, ← by8_set]
    unfold by8
    rw [List.map_append]
    rfl
  have hlast := fun x hx => Wr.stored (w := w2) (x := x) (b := b) (l := l) (u := .int .u8 ((0 ||| b.toNat <<< (7 - n % 8) : Nat) : Int)) Hw.out.from_ hx (by rw [Hn.out]; exact hc3) ho2 (by rw [Hn.out]; unfold BM.nb; omega) (by rw [Hn.out]; exact hset)
  rw [Hn.out] at hlast
  have Hlast := Lib.hid hlast
  have Hor := Lib.hid hor
  have Ht := Lib.hid ht2
  clear hlast hor hset hqq hc3 ho2 ht2 hw
  go_region
  go_wp2
  go_end0
  rw [Hor.out]
  obtain ⟨k1, k2⟩ := Hlast.out (.int .i64 ((n : Int) + 1)) (by simp)
  have hw := Hw.out
  have hlg := hw.cel.lt
  refine ⟨rfl, _, k1, ?_, ?_⟩
  · rcases Hat.out with e | e
    · exact .inl e
    · exact .inr ⟨_, e, by omega⟩
  · have g1 : Touch w w1 (foot g v) := by
      refine Touch.trans (S' := fun k => v.ownBlock = some k) ((Touch.refl w _).alloc _) (Touch.grown Hg.out (fun k hk => .inl hk)) (fun i hi => .inl (.inr hi))
    have g2 : Touch w w2 (foot g v) := g1.trans Ht.out (fun i hi => .inl (.inl hi))
    refine g2.trans k2 ?_
    intro i hi
    rcases hi with rfl | hi
    · exact .inl (.inl rfl)
    · rcases Hat.out with e | e
      · exact .inl (.inr (by rw [← e]; exact hi))
      · rw [e] at hi
        injection hi with hi
        exact .inr (by omega)

theorem add_c (w : World) (base g : Nat) (v : Value) (l : List Bool) (b : Bool) (h : Wr w base g v l) (hl : l.length < 1099511627776) :
    Calls Try.prog 38 #[.pointer (some ⟨g, 0, none⟩), .int .u8 (b.toNat : Int)] w fun e w' =>
      e = .returned (.tuple #[]) ∧ ∃ v', Grew w w' base g v v' (l ++ [b]) := by
  by_cases hr : l.length % 8 = 0
  · exact add_new w base g v l b h hl hr
  · exact (add_old w base g v l b h hl hr).mono fun _ _ ⟨h1, h2⟩ => ⟨h1, v, h2⟩
end Go.Proofs.Ytodolejhdellbaa
