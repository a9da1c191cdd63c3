/- The reference's Forward. -/
import Derived.Test.YtkecdfhpoeknkaaTfC
import Derived.Test.YtkecdfhpoeknkaaGrow4
namespace Go.Proofs.Ytkecdfhpoeknkaa
set_option linter.unusedVariables false
set_option linter.unusedSimpArgs false
open Go.RowKit Go.Sort

/-- the cells of a block -/
def blk (f : Nat → Int) : Array Value := ((List.range 64).map fun n => Value.int .i64 (f n)).toArray
theorem blk_size (f : Nat → Int) : (blk f).size = 64 := by unfold blk; simp
theorem blk_at (f : Nat → Int) (n : Nat) (h : n < 64) : (blk f)[n]? = some (.int .i64 (f n)) := by
  unfold blk
  simp [List.getElem?_range h]
theorem blk_congr {f g : Nat → Int} (h : ∀ n, n < 64 → f n = g n) : blk f = blk g := by
  unfold blk
  congr 1
  apply List.map_congr_left
  intro n hn
  rw [h n (List.mem_range.1 hn)]
theorem blk_one (f : Nat → Int) : (blk f).all (·.oneCell') = true := by
  unfold blk
  rw [Array.all_eq_true]
  intro i hi
  simp [Value.oneCell']
/-- a block with one element changed -/
def up (f : Nat → Int) (n : Nat) (v : Int) : Nat → Int := fun m => if m = n then v else f m
theorem blk_set (f : Nat → Int) (n : Nat) (v : Int) : (blk f).setIfInBounds n (.int .i64 v) = blk (up f n v) := by
  apply Array.ext_getElem?
  intro i
  rw [Array.getElem?_setIfInBounds]
  by_cases h : i < 64
  · rw [blk_at (up f n v) i h, blk_size]
    unfold up
    by_cases e : n = i
    · subst e; simp [h]
    · rw [if_neg e, if_neg (fun h => e h.symm), blk_at f i h]
  · rw [Array.getElem?_eq_none (by rw [blk_size]; omega : (blk (up f n v)).size ≤ i)]
    split
    · rename_i e; subst e; simp [blk_size, h]
    · rw [Array.getElem?_eq_none (by rw [blk_size]; omega)]

theorem getD_end {α : Type} (l : List α) (n : Nat) (d : α) (h : l.length ≤ n) : l.getD n d = d := by
  rw [List.getD_eq_getElem?_getD, List.getElem?_eq_none h]
  rfl
theorem tm_any (i k : Nat) : -12 ≤ TF.tm i k ∧ TF.tm i k ≤ 12 := by
  by_cases hi : i < 8
  · by_cases hk : k < 8
    · exact tm_bd i k hi hk
    · have := (by decide : ∀ i : Fin 8, (TF.tab.getD i.1 []).length = 8) ⟨i, hi⟩
      unfold TF.tm
      rw [getD_end _ _ _ (by simp only at this; omega)]
      decide
  · unfold TF.tm
    rw [getD_end TF.tab _ _ (by have : TF.tab.length = 8 := rfl; omega)]
    simp
theorem prod_bd (t x B : Int) (ht : -12 ≤ t ∧ t ≤ 12) (hx : -B ≤ x ∧ x ≤ B) : -(12 * B) ≤ t * x ∧ t * x ≤ 12 * B := by
  have a := TF.term_bd t x B hx
  have b : ((t.natAbs : Nat) : Int) * B ≤ 12 * B := Int.mul_le_mul_of_nonneg_right (by omega) (by omega)
  omega
theorem alloc_int (o : Oper) (a : Act) (w : World) (h : o.op = .alloc 3) : (execOp a.eval o).run Try.prog w = .ok (.value (ptr w.heap.size)) (w.alloc (.cells #[.int .i64 0] 3)) := by
  obtain ⟨dst, op, ty, pos, after, guard⟩ := o
  simp only at h
  subst h
  go_simp
  rfl
theorem grow_call {P : Program} {f : FuncId} {args : Array Value} {u : World} {v : Value} (N : Nat) (h : Calls P f args u (fun e w' => e = .returned v ∧ Below u.heap.size u w')) (hN : N = u.heap.size) :
    Calls P f args u fun e w'' => e = .returned v ∧ Below N u w'' := by rw [hN]; exact h
theorem grow_size (w : World) (os : Array Obj) : w.heap.size + os.size = (grow w os).heap.size := by simp [grow]

/-- an 8 by 8 table of sums of eight terms, in the course of being made: the places before (a, b) are whole, place (a, b) has its first c terms -/
def stt (T : Nat → Nat → Nat → Int) (a b c : Nat) : Nat → Int := fun m => if m < 8 * a + b then TF.s8 (T (m / 8) (m % 8)) else if m = 8 * a + b then sm (T a b) c else 0
theorem stt_up (T : Nat → Nat → Nat → Int) (a b c : Nat) : up (stt T a b c) (8 * a + b) (stt T a b c (8 * a + b) + T a b c) = stt T a b (c + 1) := by
  funext m
  unfold up stt
  by_cases h : m = 8 * a + b
  · subst h; simp [sm]
  · rw [if_neg h]
    by_cases h2 : m < 8 * a + b
    · rw [if_pos h2, if_pos h2]
    · rw [if_neg h2, if_neg h2, if_neg h, if_neg h]
theorem stt_at (T : Nat → Nat → Nat → Int) (a b c : Nat) : stt T a b c (8 * a + b) = sm (T a b) c := by unfold stt; rw [if_neg (by omega), if_pos rfl]
theorem stt_next (T : Nat → Nat → Nat → Int) (a b : Nat) (hb : b < 8) : stt T a b 8 = stt T a (b + 1) 0 := by
  funext m
  unfold stt
  by_cases h1 : m < 8 * a + b
  · rw [if_pos h1, if_pos (by omega)]
  · rw [if_neg h1]
    by_cases h2 : m = 8 * a + b
    · rw [if_pos h2, if_pos (by omega), sm_s8]
      have e1 : m / 8 = a := by omega
      have e2 : m % 8 = b := by omega
      rw [e1, e2]
    · rw [if_neg h2, if_neg (by omega)]
      simp [sm]
theorem stt_row (T : Nat → Nat → Nat → Int) (a : Nat) : stt T a 8 0 = stt T (a + 1) 0 0 := by
  funext m
  unfold stt
  have e : 8 * (a + 1) + 0 = 8 * a + 8 := by omega
  rw [e]
  rfl
theorem stt_zero (T : Nat → Nat → Nat → Int) : stt T 0 0 0 = fun _ => 0 := by
  funext m
  unfold stt
  simp [sm]
/-- a new variable of 64 integers, behind what lies there -/
theorem mk_two {W V : World} {x r : Nat} {f g : Nat → Int} {B : Nat} (hB : Below B W V) (hV : B ≤ V.heap.size) (hx : Cel V x 27 (blk f)) (hr : Cel V r 27 (blk g)) :
    Cel (V.alloc (.cells (blk fun _ => 0) 27)) x 27 (blk f) ∧ Cel (V.alloc (.cells (blk fun _ => 0) 27)) r 27 (blk g) ∧ Cel (V.alloc (.cells (blk fun _ => 0) 27)) V.heap.size 27 (blk fun _ => 0) ∧ Below B W (V.alloc (.cells (blk fun _ => 0) 27)) :=
  ⟨hx.alloc _, hr.alloc _, Cel.made _ _ _, hB.alloc hV _⟩

/-- what a loop over a block keeps: the block that is read, the result, the table that is made, the one that waits -/
def FInv (w : World) (f g h : Nat → Int) (R : Nat) (v : World) : Prop :=
  Cel v w.heap.size 27 (blk f) ∧ Cel v (w.heap.size + 1) 27 (blk fun _ => 0) ∧ Cel v R 27 (blk g) ∧ Cel v (R + 1) 27 (blk h) ∧ Below w.heap.size w v
theorem FInv.below {w v v' : World} {f g h : Nat → Int} {R : Nat} (H : FInv w f g h R v) (hb : Below v.heap.size v v') : FInv w f g h R v' :=
  ⟨H.1.below hb, H.2.1.below hb, H.2.2.1.below hb, H.2.2.2.1.below hb, H.2.2.2.2.trans (hb.mono H.2.2.2.2.size)⟩
theorem FInv.set2 {w v : World} {f g h : Nat → Int} {R : Nat} (H : FInv w f g h R v) (hR : w.heap.size + 2 ≤ R) (n : Nat) (x : Int) : FInv w f g (up h n x) R (v.setCell ⟨R + 1, n, none⟩ (.int .i64 x)) :=
  ⟨H.1.far (by show w.heap.size ≠ R + 1; omega) _, H.2.1.far (by show w.heap.size + 1 ≠ R + 1; omega) _, H.2.2.1.far (by show R ≠ R + 1; omega) _, by rw [← blk_set]; exact H.2.2.2.1.store n _, H.2.2.2.2.setCell (by show w.heap.size ≤ R + 1; omega) _⟩
theorem FInv.set {w v : World} {f g h : Nat → Int} {R : Nat} (H : FInv w f g h R v) (hR : w.heap.size + 2 ≤ R) (n : Nat) (x : Int) : FInv w f (up g n x) h R (v.setCell ⟨R, n, none⟩ (.int .i64 x)) :=
  ⟨H.1.far (by show w.heap.size ≠ R; omega) _, H.2.1.far (by show w.heap.size + 1 ≠ R; omega) _, by rw [← blk_set]; exact H.2.2.1.store n _, H.2.2.2.1.far (by show R + 1 ≠ R; omega) _, H.2.2.2.2.setCell (by show w.heap.size ≤ R; omega) _⟩
set_option maxRecDepth 20000 in
set_option maxHeartbeats 1000000 in
theorem forward_in (f : Nat → Int) (h : ∀ n, n < 64 → -255 ≤ f n ∧ f n ≤ 255) (w : World) :
    Calls Try.prog 19 #[.agg (blk f)] w fun e w' => e = .returned (.tuple #[.agg (blk fun n => TF.fw (fun k l => f (8 * k + l)) (n / 8) (n % 8)), .int .i64 0]) ∧ Below w.heap.size w w' := by
  have gA : ∀ o a u v, growAt Try.prog o a u v = growUpon Try.prog u v ((execOp a.eval o).run Try.prog u) := fun _ _ _ _ => rfl
  have gV : ∀ u v x w', growUpon Try.prog u v (.ok (.value x) w') = (w' = u ∧ x = v) := fun _ _ _ _ => rfl
  have gE : ∀ u v g args w', growUpon Try.prog u v (.ok (.enter g args) w') = (w' = u ∧ Calls Try.prog g args u (fun e w'' => e = .returned v ∧ Below u.heap.size u w'')) := fun _ _ _ _ _ => rfl
  have HX0 := Lib.hid (Cel.made w 27 (blk f))
  have HH := Lib.hid h
  go_enter Try.func19, Try.ntmps19
  go_wp2_with fail
  show Code.wp _ _ _ _ ((w.alloc (Obj.cells (blk f) 27)).alloc (Obj.cells (blk fun _ => 0) 27))
  have hX1 : Cel ((w.alloc (Obj.cells (blk f) 27)).alloc (Obj.cells (blk fun _ => 0) 27)) w.heap.size 27 (blk f) := HX0.out.alloc _
  have hR1 : Cel ((w.alloc (Obj.cells (blk f) 27)).alloc (Obj.cells (blk fun _ => 0) 27)) (w.heap.size + 1) 27 (blk fun _ => 0) := by
    have := Cel.made (w.alloc (Obj.cells (blk f) 27)) 27 (blk fun _ => 0)
    rwa [World.size_alloc] at this
  have hB1 : Below w.heap.size w ((w.alloc (Obj.cells (blk f) 27)).alloc (Obj.cells (blk fun _ => 0) 27)) := ((Below.refl _ _).alloc (Nat.le_refl _) _).alloc (by rw [World.size_alloc]; omega) _
  generalize ((w.alloc (Obj.cells (blk f) 27)).alloc (Obj.cells (blk fun _ => 0) 27)) = W1 at *
  clear HX0
  have HX1 := Lib.hid hX1
  have HR1 := Lib.hid hR1
  have HB1 := Lib.hid hB1
  clear hX1 hR1 hB1 h
  go_loopw [3, 4] (fun c a wr => ∃ n : Nat, n ≤ 64 ∧ c = .int .i64 0 ∧ a = .int .i64 (n : Int) ∧ wr = W1) (fun _ a _ => 64 - (intOf a).toNat)
  case atStart => exact ⟨0, by decide, rfl, rfl, rfl⟩
  case round =>
    obtain ⟨n, hn, rfl, rfl, rfl⟩ := hrel
    by_cases hlt : n < 64
    · obtain ⟨b1, b2⟩ := HH.out n hlt
      have d1 : decide ((n : Int) < 64) = true := by simp; omega
      have c0 := (HX1.out.cell n).trans (blk_at f n hlt)
      have d2 : decide (f n < -255) = false := by simp; omega
      have d3 : decide (255 < f n) = false := by simp; omega
      generalize f n = v at *
      go_wp2_with fail
      go_roundw
      case rel => exact ⟨n + 1, by omega, rfl, congrArg (Value.int .i64) (by omega), by trivial⟩
      case measure => simp [intOf]; omega
    · have e : n = 64 := by omega
      subst e
      have hR : w.heap.size + 2 ≤ wr.heap.size := HR1.out.lt
      go_wp2_with fail
      show Code.wp _ _ _ _ ((wr.alloc (Obj.cells (blk fun _ => 0) 27)).alloc (Obj.cells (blk fun _ => 0) 27))
      have hI : FInv w f (fun _ => 0) (fun _ => 0) wr.heap.size ((wr.alloc (Obj.cells (blk fun _ => 0) 27)).alloc (Obj.cells (blk fun _ => 0) 27)) := by
        have c2 := Cel.made (wr.alloc (Obj.cells (blk fun _ => 0) 27)) 27 (blk fun _ => 0)
        rw [World.size_alloc] at c2
        exact ⟨(HX1.out.alloc _).alloc _, (HR1.out.alloc _).alloc _, (Cel.made wr _ _).alloc _, c2, (HB1.out.alloc HB1.out.size _).alloc (by rw [World.size_alloc]; omega) _⟩
      generalize ((wr.alloc (Obj.cells (blk fun _ => 0) 27)).alloc (Obj.cells (blk fun _ => 0) 27)) = W2 at *
      generalize wr.heap.size = R at *
      clear HX1 HR1 HB1 hn hlt
      have HI0 := Lib.hid hI
      clear hI
      obtain ⟨T, hT⟩ : ∃ T : Nat → Nat → Nat → Int, T = fun k j l => TF.tm j l * f (8 * k + l) := ⟨_, rfl⟩
      have HS := Lib.hid (show ∀ k j l, k < 8 → l ≤ 8 → -24480 ≤ sm (T k j) l ∧ sm (T k j) l ≤ 24480 from by
        intro k j l hk hl
        have key : ∀ l : Nat, l ≤ 8 → -(3060 * (l : Int)) ≤ sm (T k j) l ∧ sm (T k j) l ≤ 3060 * (l : Int) := by
          intro l
          induction l with
          | zero => intro _; simp [sm]
          | succ l ih =>
            intro hl
            have ih := ih (by omega)
            have e : T k j l = TF.tm j l * f (8 * k + l) := by rw [hT]
            have bt : -12 ≤ TF.tm j l ∧ TF.tm j l ≤ 12 := tm_any j l
            have bp := prod_bd _ _ 255 bt (HH.out (8 * k + l) (by omega))
            simp only [sm, e]
            omega
        have := key l hl
        omega)
      go_loopw [7] (fun a v => ∃ k : Nat, k ≤ 8 ∧ a = .int .i64 (k : Int) ∧ FInv w f (stt T k 0 0) (fun _ => 0) R v) (fun a _ => 8 - (intOf a).toNat)
      case atStart => exact ⟨0, by decide, rfl, by rw [stt_zero]; exact HI0.out⟩
      case round =>
        obtain ⟨k, hk, rfl, hI⟩ := hrel
        have HI := Lib.hid hI
        clear hI
        by_cases hlk : k < 8
        · have dk : decide ((k : Int) < 8) = true := by simp; omega
          go_wp2_with fail
          go_loopw [8] (fun b v => ∃ j : Nat, j ≤ 8 ∧ b = .int .i64 (j : Int) ∧ FInv w f (stt T k j 0) (fun _ => 0) R v) (fun b _ => 8 - (intOf b).toNat)
          case atStart => exact ⟨0, by decide, rfl, HI.out⟩
          case round =>
            obtain ⟨j, hj, rfl, hI⟩ := hrel
            have HI := Lib.hid hI
            clear hI
            by_cases hlj : j < 8
            · have dj : decide ((j : Int) < 8) = true := by simp; omega
              go_wp2_with fail
              go_loopw [9] (fun c v => ∃ l : Nat, l ≤ 8 ∧ c = .int .i64 (l : Int) ∧ FInv w f (stt T k j l) (fun _ => 0) R v) (fun c _ => 8 - (intOf c).toNat)
              case atStart => exact ⟨0, by decide, rfl, HI.out⟩
              case round =>
                obtain ⟨l, hl, rfl, hI⟩ := hrel
                have HI := Lib.hid hI
                clear hI
                by_cases hll : l < 8
                · have dl : decide ((l : Int) < 8) = true := by simp; omega
                  have hm1 : 8 * k + j < 64 := by omega
                  have hm2 : 8 * k + l < 64 := by omega
                  have q0 : World.cell? wr ⟨R, 8 * k + j, none⟩ = some (.int .i64 (sm (T k j) l)) := by rw [HI.out.2.2.1.cell, blk_at _ _ hm1, stt_at]
                  have q1 : World.cell? wr ⟨w.heap.size, 8 * k + l, none⟩ = some (.int .i64 (f (8 * k + l))) := by rw [HI.out.1.cell, blk_at _ _ hm2]
                  have hbas := fun u => basis_c (j : Int) (l : Int) u
                  rw [tz_in j l hlj hll] at hbas
                  have bt := tm_bd j l hlj hll
                  have bp := prod_bd _ _ 255 bt (HH.out _ hm2)
                  have bx := HH.out _ hm2
                  have bs := HS.out k j l hlk hl
                  have eT : T k j l = TF.tm j l * f (8 * k + l) := by rw [hT]
                  have HTe := Lib.hid (show stt T k j l (8 * k + j) + T k j l = sm (T k j) l + TF.tm j l * f (8 * k + l) by rw [stt_at, eT])
                  clear eT
                  generalize sm (T k j) l = a at *
                  generalize TF.tm j l = t at *
                  generalize f (8 * k + l) = x at *
                  generalize hpp : t * x = p at *
                  have r0 := cell_regrown q0
                  have r1 := cell_regrown q1
                  clear q0 q1
                  have w1 := IntWalk.i64_in (8 * (k : Int)) (by omega)
                  have w2 := IntWalk.i64_in (8 * (k : Int) + (j : Int)) (by omega)
                  have w3 := IntWalk.i64_in (8 * (k : Int) + (l : Int)) (by omega)
                  have w4 := IntWalk.i64_in p (by omega)
                  have w5 := IntWalk.i64_in (a + p) (by omega)
                  have n1 : (8 * (k : Int) + (j : Int)).toNat = 8 * k + j := by omega
                  have n2 : (8 * (k : Int) + (l : Int)).toNat = 8 * k + l := by omega
                  have g1 : 0 ≤ 8 * (k : Int) + (j : Int) := by omega
                  have g2 : 8 * (k : Int) + (j : Int) < 64 := by omega
                  have g3 : 0 ≤ 8 * (k : Int) + (l : Int) := by omega
                  have g4 : 8 * (k : Int) + (l : Int) < 64 := by omega
                  go_upto_region 16 with fail
                  refine wp_region_grow 18 3 #[.int .i64 0] (fun _ => False) (by kernel_rfl) (by kernel_rfl) (by kernel_rfl) alloc_int (by kernel_rfl) (fun _ _ _ _ _ _ _ _ _ h => h.elim) ?_
                  simp only [List.take_succ_cons, List.take_zero]
                  (repeat' (refine lexW_step (fun K hK => ?_); simp only [isMade, keptAt]; go_simp; first | (refine hK _ ?_; clear hK K) | (refine ⟨_, fun p => grow_call _ (hbas _) (grow_size _ _), hK _ ?_⟩; clear hK K)))
                  clear r0 r1 w1 w2 w3 w4 w5 hbas
                  refine lexW_nil (Behind2.behind (ms := []) (ks := []) (mk := fun _ a => a) (by kernel_rfl) (by kernel_rfl) rfl (fun _ _ => by kernel_rfl) ⟨fun _ h => (by cases h), fun _ h => (by cases h), ?_⟩)
                  intro β v3 hb3 _ _
                  have HI3 := Lib.hid (HI.out.below hb3)
                  clear hb3
                  have c0 : World.cell? v3 ⟨R, 8 * k + j, none⟩ = _ := (HI3.out.2.2.1.cell (8 * k + j)).trans (blk_at _ _ hm1)
                  have f0 := HI3.out.2.2.1.free (8 * k + j)
                  have hset : FInv w f (stt T k j (l + 1)) (fun _ => 0) R (v3.setCell ⟨R, 8 * k + j, none⟩ (.int .i64 (a + p))) := by
                    have h := HI3.out.set hR (8 * k + j) (a + p)
                    rw [show up (stt T k j l) (8 * k + j) (a + p) = stt T k j (l + 1) by rw [← HTe.out, stt_up]] at h
                    exact h
                  have HSet := Lib.hid hset
                  clear hset
                  go_wp2_with fail
                  go_roundw
                  case rel => exact ⟨l + 1, by omega, congrArg (Value.int .i64) (by omega), HSet.out⟩
                  case measure => simp [intOf]; omega
                · have e : l = 8 := by omega
                  subst e
                  go_wp2_with fail
                  go_roundw
                  case rel => exact ⟨j + 1, by omega, congrArg (Value.int .i64) (by omega), by rw [← stt_next T k j hlj]; exact HI.out⟩
                  case measure => simp [intOf]; omega
            · have e : j = 8 := by omega
              subst e
              go_wp2_with fail
              go_roundw
              case rel =>
                repeat apply Exists.intro
                refine ⟨?hrel, rfl⟩
                case hrel => exact ⟨k + 1, by omega, congrArg (Value.int .i64) (by omega), by rw [← stt_row T k]; exact HI.out⟩
              case measure => simp [intOf]; omega
        · have e : k = 8 := by omega
          subst e
          go_wp2_with fail
          have hgb : ∀ m, m < 64 → -24480 ≤ stt T 8 0 0 m ∧ stt T 8 0 0 m ≤ 24480 := by
            intro m hm
            unfold stt
            rw [if_pos (by omega), ← sm_s8]
            exact HS.out (m / 8) (m % 8) 8 (by omega) (by decide)
          obtain ⟨g, hg⟩ : ∃ g, stt T 8 0 0 = g := ⟨_, rfl⟩
          rw [hg] at hgb HI
          have HG := Lib.hid hg
          have HGB := Lib.hid hgb
          clear hg hgb HI0 HS hk hlk
          obtain ⟨S, hS⟩ : ∃ S : Nat → Nat → Nat → Int, S = fun i j k => TF.tm i k * g (8 * k + j) := ⟨_, rfl⟩
          have HS := Lib.hid (show ∀ i j l, j < 8 → l ≤ 8 → -2350080 ≤ sm (S i j) l ∧ sm (S i j) l ≤ 2350080 from by
            intro i j l hj hl
            have key : ∀ l : Nat, l ≤ 8 → -(293760 * (l : Int)) ≤ sm (S i j) l ∧ sm (S i j) l ≤ 293760 * (l : Int) := by
              intro l
              induction l with
              | zero => intro _; simp [sm]
              | succ l ih =>
                intro hl
                have ih := ih (by omega)
                have e : S i j l = TF.tm i l * g (8 * l + j) := by rw [hS]
                have bt : -12 ≤ TF.tm i l ∧ TF.tm i l ≤ 12 := tm_any i l
                have bp := prod_bd _ _ 24480 bt (HGB.out (8 * l + j) (by omega))
                simp only [sm, e]
                omega
            have := key l hl
            omega)
          have HI0 := HI
          clear HI
          go_loopw [10] (fun a v => ∃ i : Nat, i ≤ 8 ∧ a = .int .i64 (i : Int) ∧ FInv w f g (stt S i 0 0) R v) (fun a _ => 8 - (intOf a).toNat)
          case atStart => exact ⟨0, by decide, rfl, by rw [stt_zero]; exact HI0.out⟩
          case round =>
            obtain ⟨i, hi, rfl, hI⟩ := hrel
            have HI := Lib.hid hI
            clear hI
            by_cases hli : i < 8
            · have di : decide ((i : Int) < 8) = true := by simp; omega
              go_wp2_with fail
              go_loopw [11] (fun b v => ∃ j : Nat, j ≤ 8 ∧ b = .int .i64 (j : Int) ∧ FInv w f g (stt S i j 0) R v) (fun b _ => 8 - (intOf b).toNat)
              case atStart => exact ⟨0, by decide, rfl, HI.out⟩
              case round =>
                obtain ⟨j, hj, rfl, hI⟩ := hrel
                have HI := Lib.hid hI
                clear hI
                by_cases hlj : j < 8
                · have dj : decide ((j : Int) < 8) = true := by simp; omega
                  go_wp2_with fail
                  go_loopw [12] (fun c v => ∃ l : Nat, l ≤ 8 ∧ c = .int .i64 (l : Int) ∧ FInv w f g (stt S i j l) R v) (fun c _ => 8 - (intOf c).toNat)
                  case atStart => exact ⟨0, by decide, rfl, HI.out⟩
                  case round =>
                    obtain ⟨l, hl, rfl, hI⟩ := hrel
                    have HI := Lib.hid hI
                    clear hI
                    by_cases hll : l < 8
                    · have dl : decide ((l : Int) < 8) = true := by simp; omega
                      have hm1 : 8 * i + j < 64 := by omega
                      have hm2 : 8 * l + j < 64 := by omega
                      have q0 : World.cell? wr ⟨R + 1, 8 * i + j, none⟩ = some (.int .i64 (sm (S i j) l)) := by rw [HI.out.2.2.2.1.cell, blk_at _ _ hm1, stt_at]
                      have q1 : World.cell? wr ⟨R, 8 * l + j, none⟩ = some (.int .i64 (g (8 * l + j))) := by rw [HI.out.2.2.1.cell, blk_at _ _ hm2]
                      have hbas := fun u => basis_c (i : Int) (l : Int) u
                      rw [tz_in i l hli hll] at hbas
                      have bt := tm_bd i l hli hll
                      have bp := prod_bd _ _ 24480 bt (HGB.out _ hm2)
                      have bx := HGB.out _ hm2
                      have bs := HS.out i j l hlj hl
                      have eT : S i j l = TF.tm i l * g (8 * l + j) := by rw [hS]
                      have HTe := Lib.hid (show stt S i j l (8 * i + j) + S i j l = sm (S i j) l + TF.tm i l * g (8 * l + j) by rw [stt_at, eT])
                      clear eT
                      generalize sm (S i j) l = a at *
                      generalize TF.tm i l = t at *
                      generalize g (8 * l + j) = x at *
                      generalize hpp : t * x = p at *
                      have r0 := cell_regrown q0
                      have r1 := cell_regrown q1
                      clear q0 q1
                      have w1 := IntWalk.i64_in (8 * (i : Int)) (by omega)
                      have w2 := IntWalk.i64_in (8 * (i : Int) + (j : Int)) (by omega)
                      have w3 := IntWalk.i64_in (8 * (l : Int) + (j : Int)) (by omega)
                      have w6 := IntWalk.i64_in (8 * (l : Int)) (by omega)
                      have w4 := IntWalk.i64_in p (by omega)
                      have w5 := IntWalk.i64_in (a + p) (by omega)
                      have n1 : (8 * (i : Int) + (j : Int)).toNat = 8 * i + j := by omega
                      have n2 : (8 * (l : Int) + (j : Int)).toNat = 8 * l + j := by omega
                      have g1 : 0 ≤ 8 * (i : Int) + (j : Int) := by omega
                      have g2 : 8 * (i : Int) + (j : Int) < 64 := by omega
                      have g3 : 0 ≤ 8 * (l : Int) + (j : Int) := by omega
                      have g4 : 8 * (l : Int) + (j : Int) < 64 := by omega
                      go_upto_region 26 with fail
                      refine wp_region_grow 18 3 #[.int .i64 0] (fun _ => False) (by kernel_rfl) (by kernel_rfl) (by kernel_rfl) alloc_int (by kernel_rfl) (fun _ _ _ _ _ _ _ _ _ h => h.elim) ?_
                      simp only [List.take_succ_cons, List.take_zero]
                      (repeat' (refine lexW_step (fun K hK => ?_); simp only [isMade, keptAt]; go_simp; first | (refine hK _ ?_; clear hK K) | (refine ⟨_, fun p => grow_call _ (hbas _) (grow_size _ _), hK _ ?_⟩; clear hK K)))
                      clear r0 r1 w1 w2 w3 w4 w5 w6 hbas
                      refine lexW_nil (Behind2.behind (ms := []) (ks := []) (mk := fun _ a => a) (by kernel_rfl) (by kernel_rfl) rfl (fun _ _ => by kernel_rfl) ⟨fun _ h => (by cases h), fun _ h => (by cases h), ?_⟩)
                      intro β v3 hb3 _ _
                      have HI3 := Lib.hid (HI.out.below hb3)
                      clear hb3
                      have c0 : World.cell? v3 ⟨R + 1, 8 * i + j, none⟩ = _ := (HI3.out.2.2.2.1.cell (8 * i + j)).trans (blk_at _ _ hm1)
                      have f0 := HI3.out.2.2.2.1.free (8 * i + j)
                      have hset : FInv w f g (stt S i j (l + 1)) R (v3.setCell ⟨R + 1, 8 * i + j, none⟩ (.int .i64 (a + p))) := by
                        have h := HI3.out.set2 hR (8 * i + j) (a + p)
                        rw [show up (stt S i j l) (8 * i + j) (a + p) = stt S i j (l + 1) by rw [← HTe.out, stt_up]] at h
                        exact h
                      have HSet := Lib.hid hset
                      clear hset
                      go_wp2_with fail
                      go_roundw
                      case rel => exact ⟨l + 1, by omega, congrArg (Value.int .i64) (by omega), HSet.out⟩
                      case measure => simp [intOf]; omega
                    · have e : l = 8 := by omega
                      subst e
                      go_wp2_with fail
                      go_roundw
                      case rel => exact ⟨j + 1, by omega, congrArg (Value.int .i64) (by omega), by rw [← stt_next S i j hlj]; exact HI.out⟩
                      case measure => simp [intOf]; omega
                · have e : j = 8 := by omega
                  subst e
                  go_wp2_with fail
                  go_roundw
                  case rel => exact ⟨i + 1, by omega, congrArg (Value.int .i64) (by omega), by rw [← stt_row S i]; exact HI.out⟩
                  case measure => simp [intOf]; omega
            · have e : i = 8 := by omega
              subst e
              have hy : ∀ n, n < 64 → stt S 8 0 0 n = TF.fw (fun k l => f (8 * k + l)) (n / 8) (n % 8) := by
                intro n hn
                have e1 : stt S 8 0 0 n = TF.s8 (S (n / 8) (n % 8)) := by unfold stt; rw [if_pos (by omega)]
                rw [e1, hS]
                unfold TF.fw
                apply TF.s8_congr
                intro k hk
                rw [← HG.out]
                have e2 : stt T 8 0 0 (8 * k + n % 8) = TF.s8 (T k (n % 8)) := by
                  unfold stt
                  rw [if_pos (by omega)]
                  have a1 : (8 * k + n % 8) / 8 = k := by omega
                  have a2 : (8 * k + n % 8) % 8 = n % 8 := by omega
                  rw [a1, a2]
                show TF.tm (n / 8) k * stt T 8 0 0 (8 * k + n % 8) = _
                rw [e2, hT]
                rfl
              have hI := HI.out
              rw [FInv, blk_congr hy] at hI
              obtain ⟨y, hye⟩ : ∃ y, (fun n => TF.fw (fun k l => f (8 * k + l)) (n / 8) (n % 8)) = y := ⟨_, rfl⟩
              rw [hye] at hI
              have HYe := Lib.hid hye
              clear hye hy
              clear HI HI0 HS HG HGB hS hT
              obtain ⟨h1, hres, h3, hY, hb⟩ := hI
              have HRow := Lib.hid (setRow_heap wr (w.heap.size + 1) _ (blk y) _ _ hres)
              have HB := Lib.hid hb
              have hW : Below w.heap.size w (wr.setRow (w.heap.size + 1) (blk y)) := by
                refine ⟨hb.os, hb.tape, hb.output, by rw [setRow_size]; exact hb.size, fun j hj => ?_⟩
                rw [setRow_other _ _ _ _ (by omega)]
                exact hb.block j hj
              have HW := Lib.hid hW
              clear hW hb h1 h3
              go_wp2_with (first | (refine wpList_load_row rfl 27 _ rfl (R + 1) rfl 27 (blk y) (0, 0) _ hY Try.underlying27 rfl (by rw [blk_size]; kernel_rfl) ?_) | (refine wpList_store_row rfl 27 _ _ rfl (w.heap.size + 1) (blk y) rfl rfl 27 _ hres (by rw [blk_size]; kernel_rfl) (by simp only [blk_size]) (blk_one _) ?_))
              refine bodyPost_ret (v := .tuple #[.agg (blk y), .int .i64 0]) (by simp [results, Try.results19, asAddr, run_loadVar_row _ _ _ _ _ _ _ HRow.out Try.underlying27 rfl (by rw [blk_size]; kernel_rfl)]) rfl ⟨by rw [← HYe.out], HW.out⟩
end Go.Proofs.Ytkecdfhpoeknkaa
