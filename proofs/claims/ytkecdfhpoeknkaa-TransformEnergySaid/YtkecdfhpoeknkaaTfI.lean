/- The reference's Inverse. -/
import Derived.Test.YtkecdfhpoeknkaaTfF
namespace Go.Proofs.Ytkecdfhpoeknkaa
set_option linter.unusedVariables false
set_option linter.unusedSimpArgs false
open Go.RowKit Go.Sort

theorem nz_in (j : Nat) (hj : j < 8) : nz j = TF.nm j ∧ (739840 : Int).tdiv (TF.nm j) = TF.mm j ∧ 320 ≤ TF.nm j ∧ TF.nm j ≤ 578 ∧ 1280 ≤ TF.mm j ∧ TF.mm j ≤ 2312 := by
  refine ⟨?_, ?_⟩
  · unfold nz TF.nm
    exact TF.s8_congr fun k hk => by rw [tz_in j k hj hk]
  · have := (by decide : ∀ j : Fin 8, (739840 : Int).tdiv (TF.nm j.1) = TF.mm j.1 ∧ 320 ≤ TF.nm j.1 ∧ TF.nm j.1 ≤ 578 ∧ 1280 ≤ TF.mm j.1 ∧ TF.mm j.1 ≤ 2312) ⟨j, hj⟩
    exact this
theorem cl_bd (v : Int) : -2097152 ≤ cl v ∧ cl v ≤ 2097152 := by unfold cl; omega
theorem wt_bd (t m : Int) (ht : -12 ≤ t ∧ t ≤ 12) (hm : 1280 ≤ m ∧ m ≤ 2312) : -27744 ≤ t * m ∧ t * m ≤ 27744 := by
  have := prod_bd t m 2312 ht (by omega)
  omega
theorem prod_bd2 (t x A B : Int) (hA : 0 ≤ A) (ht : -A ≤ t ∧ t ≤ A) (hx : -B ≤ x ∧ x ≤ B) : -(A * B) ≤ t * x ∧ t * x ≤ A * B := by
  have a := TF.term_bd t x B hx
  have b : ((t.natAbs : Nat) : Int) * B ≤ A * B := Int.mul_le_mul_of_nonneg_right (by omega) (by omega)
  omega

/-- the first c places of a table -/
def xt (X : Nat → Int) (c : Nat) : Nat → Int := fun m => if m < c then X m else 0
theorem xt_up (X : Nat → Int) (c : Nat) : up (xt X c) c (X c) = xt X (c + 1) := by
  funext m
  unfold up xt
  by_cases h : m = c
  · subst h; simp
  · rw [if_neg h]
    by_cases h2 : m < c
    · rw [if_pos h2, if_pos (by omega)]
    · rw [if_neg h2, if_neg (by omega)]
theorem up_up (f : Nat → Int) (c : Nat) (a b : Int) : up (up f c a) c b = up f c b := by
  funext m
  unfold up
  split <;> rfl
theorem up_at (f : Nat → Int) (c : Nat) (a : Int) : up f c a c = a := by unfold up; simp
theorem xt_zero (X : Nat → Int) : xt X 0 = fun _ => 0 := by funext m; unfold xt; simp
/-- the quotient and the rest, as the language has them -/
theorem quo_near (v : Int) : (273681612800 + v).tmod 547363225600 < 0 ∧ (273681612800 + v).tdiv 547363225600 - 1 = TF.near v ∨ ¬ (273681612800 + v).tmod 547363225600 < 0 ∧ (273681612800 + v).tdiv 547363225600 = TF.near v := by
  unfold TF.near
  have e0 : v + 273681612800 = 273681612800 + v := Int.add_comm _ _
  rw [e0]
  generalize 273681612800 + v = s
  rcases Int.le_total 0 s with h | h
  · right
    rw [Int.tdiv_eq_ediv_of_nonneg h, Int.tmod_eq_emod_of_nonneg h]
    omega
  · obtain ⟨a, rfl⟩ : ∃ a, s = -a := ⟨-s, by omega⟩
    rw [Int.neg_tdiv, Int.neg_tmod, Int.tdiv_eq_ediv_of_nonneg (by omega : 0 ≤ a), Int.tmod_eq_emod_of_nonneg (by omega : 0 ≤ a)]
    omega

set_option maxRecDepth 20000 in
set_option maxHeartbeats 2000000 in
theorem inverse_c (f : Nat → Int) (w : World) :
    Calls Try.prog 21 #[.agg (blk f)] w fun e w' => e = .returned (.agg (blk fun n => TF.near (TF.iv (fun i j => cl (f (8 * i + j))) (n / 8) (n % 8)))) ∧ Below w.heap.size w w' := by
  have gA : ∀ o a u v, growAt Try.prog o a u v = growUpon Try.prog u v ((execOp a.eval o).run Try.prog u) := fun _ _ _ _ => rfl
  have gV : ∀ u v x w', growUpon Try.prog u v (.ok (.value x) w') = (w' = u ∧ x = v) := fun _ _ _ _ => rfl
  have gE : ∀ u v g args w', growUpon Try.prog u v (.ok (.enter g args) w') = (w' = u ∧ Calls Try.prog g args u (fun e w'' => e = .returned v ∧ Below u.heap.size u w'')) := fun _ _ _ _ _ => rfl
  have HX0 := Lib.hid (Cel.made w 27 (blk f))
  have hc : ∀ v u, Calls Try.prog 23 #[.int .i64 v] u fun e u' => e = .returned (.int .i64 (cl v)) ∧ Below u.heap.size u u' := fun v u => (clamp_c v u).mono fun e u' h => ⟨h.1, by rw [h.2]; exact Below.refl _ _⟩
  have HC := Lib.hid hc
  clear hc
  go_enter Try.func21, Try.ntmps21
  go_wp2_with fail
  show Code.wp _ _ _ _ ((((w.alloc (Obj.cells (blk f) 27)).alloc (Obj.cells (blk fun _ => 0) 27)).alloc (Obj.cells (blk fun _ => 0) 27)).alloc (Obj.cells (blk fun _ => 0) 27))
  have hI : FInv w f (fun _ => 0) (fun _ => 0) (w.heap.size + 2) ((((w.alloc (Obj.cells (blk f) 27)).alloc (Obj.cells (blk fun _ => 0) 27)).alloc (Obj.cells (blk fun _ => 0) 27)).alloc (Obj.cells (blk fun _ => 0) 27)) := by
    have c1 := Cel.made (w.alloc (Obj.cells (blk f) 27)) 27 (blk fun _ => 0)
    have c2 := Cel.made ((w.alloc (Obj.cells (blk f) 27)).alloc (Obj.cells (blk fun _ => 0) 27)) 27 (blk fun _ => 0)
    have c3 := Cel.made (((w.alloc (Obj.cells (blk f) 27)).alloc (Obj.cells (blk fun _ => 0) 27)).alloc (Obj.cells (blk fun _ => 0) 27)) 27 (blk fun _ => 0)
    simp only [World.size_alloc] at c1 c2 c3
    exact ⟨((HX0.out.alloc _).alloc _).alloc _, (c1.alloc _).alloc _, c2.alloc _, c3, ((((Below.refl _ _).alloc (Nat.le_refl _) _).alloc (by simp only [World.size_alloc]; omega) _).alloc (by simp only [World.size_alloc]; omega) _).alloc (by simp only [World.size_alloc]; omega) _⟩
  generalize ((((w.alloc (Obj.cells (blk f) 27)).alloc (Obj.cells (blk fun _ => 0) 27)).alloc (Obj.cells (blk fun _ => 0) 27)).alloc (Obj.cells (blk fun _ => 0) 27)) = W2 at *
  have HI0 := Lib.hid hI
  clear hI HX0
  obtain ⟨T, hT⟩ : ∃ T : Nat → Nat → Nat → Int, T = fun i l j => TF.tm j l * TF.mm j * cl (f (8 * i + j)) := ⟨_, rfl⟩
  have HS := Lib.hid (show ∀ k j l, l ≤ 8 → -465467080704 ≤ sm (T k j) l ∧ sm (T k j) l ≤ 465467080704 from by
    intro k j l hl
    have key : ∀ l : Nat, l ≤ 8 → -(58183385088 * (l : Int)) ≤ sm (T k j) l ∧ sm (T k j) l ≤ 58183385088 * (l : Int) := by
      intro l
      induction l with
      | zero => intro _; simp [sm]
      | succ l ih =>
        intro hl
        have ih := ih (by omega)
        have e : T k j l = TF.tm l j * TF.mm l * cl (f (8 * k + l)) := by rw [hT]
        have b1 := wt_bd _ _ (tm_any l j) (nz_in l (by omega)).2.2.2.2
        have b2 := prod_bd2 _ _ 27744 2097152 (by decide) b1 (cl_bd (f (8 * k + l)))
        simp only [sm, e]
        omega
    have := key l hl
    omega)
  go_loopw [5] (fun a v => ∃ k : Nat, k ≤ 8 ∧ a = .int .i64 (k : Int) ∧ FInv w f (stt T k 0 0) (fun _ => 0) (w.heap.size + 2) v) (fun a _ => 8 - (intOf a).toNat)
  case atStart => exact ⟨0, by decide, rfl, by rw [stt_zero]; exact HI0.out⟩
  case round =>
    obtain ⟨k, hk, rfl, hI⟩ := hrel
    have HI := Lib.hid hI
    clear hI
    by_cases hlk : k < 8
    · have dk : decide ((k : Int) < 8) = true := by simp; omega
      go_wp2_with fail
      go_loopw [6] (fun b v => ∃ j : Nat, j ≤ 8 ∧ b = .int .i64 (j : Int) ∧ FInv w f (stt T k j 0) (fun _ => 0) (w.heap.size + 2) v) (fun b _ => 8 - (intOf b).toNat)
      case atStart => exact ⟨0, by decide, rfl, HI.out⟩
      case round =>
        obtain ⟨j, hj, rfl, hI⟩ := hrel
        have HI := Lib.hid hI
        clear hI
        by_cases hlj : j < 8
        · have dj : decide ((j : Int) < 8) = true := by simp; omega
          go_wp2_with fail
          go_loopw [7] (fun c v => ∃ l : Nat, l ≤ 8 ∧ c = .int .i64 (l : Int) ∧ FInv w f (stt T k j l) (fun _ => 0) (w.heap.size + 2) v) (fun c _ => 8 - (intOf c).toNat)
          case atStart => exact ⟨0, by decide, rfl, HI.out⟩
          case round =>
            obtain ⟨l, hl, rfl, hI⟩ := hrel
            have HI := Lib.hid hI
            clear hI
            by_cases hll : l < 8
            · have dl : decide ((l : Int) < 8) = true := by simp; omega
              have hm1 : 8 * k + j < 64 := by omega
              have hm2 : 8 * k + l < 64 := by omega
              have q0 : World.cell? wr ⟨w.heap.size + 2, 8 * k + j, none⟩ = some (.int .i64 (sm (T k j) l)) := by rw [HI.out.2.2.1.cell, blk_at _ _ hm1, stt_at]
              have q1 : World.cell? wr ⟨w.heap.size, 8 * k + l, none⟩ = some (.int .i64 (f (8 * k + l))) := by rw [HI.out.1.cell, blk_at _ _ hm2]
              have hbas := fun u => basis_c (l : Int) (j : Int) u
              rw [tz_in l j hll hlj] at hbas
              obtain ⟨z1, z2, z3, z4, z5, z6⟩ := nz_in l hll
              have hnor := fun u => norm_c (l : Int) u
              rw [z1] at hnor
              have hcl := fun u => HC.out (f (8 * k + l)) u
              have bt := tm_bd l j hll hlj
              have b1 := wt_bd _ _ bt ⟨z5, z6⟩
              have b3 := cl_bd (f (8 * k + l))
              have b2 := prod_bd2 _ _ 27744 2097152 (by decide) b1 b3
              have bs := HS.out k j l hl
              have eT : T k j l = TF.tm l j * TF.mm l * cl (f (8 * k + l)) := by rw [hT]
              have HTe := Lib.hid (show stt T k j l (8 * k + j) + T k j l = sm (T k j) l + TF.tm l j * TF.mm l * cl (f (8 * k + l)) by rw [stt_at, eT])
              clear eT z1
              generalize sm (T k j) l = a at *
              generalize TF.tm l j = t at *
              generalize TF.mm l = m at *
              generalize TF.nm l = n at *
              generalize cl (f (8 * k + l)) = x at *
              generalize hqq : t * m = q at *
              generalize hpp : q * x = p at *
              have r0 := cell_regrown q0
              have r1 := cell_regrown q1
              clear q0 q1
              have w1 := IntWalk.i64_in (8 * (k : Int)) (by omega)
              have w2 := IntWalk.i64_in (8 * (k : Int) + (j : Int)) (by omega)
              have w3 := IntWalk.i64_in (8 * (k : Int) + (l : Int)) (by omega)
              have w4 := IntWalk.i64_in p (by omega)
              have w5 := IntWalk.i64_in (a + p) (by omega)
              have w6 := IntWalk.i64_in q (by omega)
              have w7 := IntWalk.i64_in m (by omega)
              have n0 : (n == 0) = false := by simp; omega
              have n1 : (8 * (k : Int) + (j : Int)).toNat = 8 * k + j := by omega
              have n2 : (8 * (k : Int) + (l : Int)).toNat = 8 * k + l := by omega
              have g0 : ¬ n = 0 := by omega
              have g1 : 0 ≤ 8 * (k : Int) + (j : Int) := by omega
              have g2 : 8 * (k : Int) + (j : Int) < 64 := by omega
              have g3 : 0 ≤ 8 * (k : Int) + (l : Int) := by omega
              have g4 : 8 * (k : Int) + (l : Int) < 64 := by omega
              go_upto_region 11 with fail
              refine wp_region_grow 23 3 #[.int .i64 0] (fun _ => False) (by kernel_rfl) (by kernel_rfl) (by kernel_rfl) alloc_int (by kernel_rfl) (fun _ _ _ _ _ _ _ _ _ h => h.elim) ?_
              simp only [List.take_succ_cons, List.take_zero]
              (repeat' (refine lexW_step (fun K hK => ?_); simp only [isMade, keptAt]; go_simp; first | (refine hK _ ?_; clear hK K) | (refine ⟨_, fun p => grow_call _ (hbas _) (grow_size _ _), hK _ ?_⟩; clear hK K) | (refine ⟨_, fun p => grow_call _ (hnor _) (grow_size _ _), hK _ ?_⟩; clear hK K) | (refine ⟨_, fun p => grow_call _ (hcl _) (grow_size _ _), hK _ ?_⟩; clear hK K)))
              clear r0 r1 w1 w2 w3 w4 w5 w6 w7 hbas hnor hcl
              refine lexW_nil (Behind2.behind (ms := []) (ks := []) (mk := fun _ a => a) (by kernel_rfl) (by kernel_rfl) rfl (fun _ _ => by kernel_rfl) ⟨fun _ h => (by cases h), fun _ h => (by cases h), ?_⟩)
              intro β v3 hb3 _ _
              have HI3 := Lib.hid (HI.out.below hb3)
              clear hb3
              have c0 : World.cell? v3 ⟨w.heap.size + 2, 8 * k + j, none⟩ = _ := (HI3.out.2.2.1.cell (8 * k + j)).trans (blk_at _ _ hm1)
              have f0 := HI3.out.2.2.1.free (8 * k + j)
              have hset : FInv w f (stt T k j (l + 1)) (fun _ => 0) (w.heap.size + 2) (v3.setCell ⟨w.heap.size + 2, 8 * k + j, none⟩ (.int .i64 (a + p))) := by
                have h := HI3.out.set (Nat.le_refl _) (8 * k + j) (a + p)
                rw [show up (stt T k j l) (8 * k + j) (a + p) = stt T k j (l + 1) by rw [← HTe.out, stt_up]] at h
                exact h
              have HSet := Lib.hid hset
              clear hset
              go_wp2_with fail
              go_roundw
              case rel => exact ⟨l + 1, by omega, congrArg (Value.int .i64) (by omega), HSet.out⟩
              case measure => simp [intOf]; omega
            · have e : l = 8 := by omega
              subst e
              go_wp2_with fail
              go_roundw
              case rel => exact ⟨j + 1, by omega, congrArg (Value.int .i64) (by omega), by rw [← stt_next T k j hlj]; exact HI.out⟩
              case measure => simp [intOf]; omega
        · have e : j = 8 := by omega
          subst e
          go_wp2_with fail
          go_roundw
          case rel => exact ⟨k + 1, by omega, congrArg (Value.int .i64) (by omega), by rw [← stt_row T k]; exact HI.out⟩
          case measure => simp [intOf]; omega
    · have e : k = 8 := by omega
      subst e
      go_wp2_with fail
      have hgb : ∀ m, m < 64 → -465467080704 ≤ stt T 8 0 0 m ∧ stt T 8 0 0 m ≤ 465467080704 := by
        intro m hm
        unfold stt
        rw [if_pos (by omega), ← sm_s8]
        exact HS.out (m / 8) (m % 8) 8 (by decide)
      obtain ⟨g, hg⟩ : ∃ g, stt T 8 0 0 = g := ⟨_, rfl⟩
      rw [hg] at hgb HI
      have HG := Lib.hid hg
      have HGB := Lib.hid hgb
      clear hg hgb HI0 HS hk hlk
      obtain ⟨S, hS⟩ : ∃ S : Nat → Nat → Nat → Int, S = fun k l i => TF.tm i k * TF.mm i * g (8 * i + l) := ⟨_, rfl⟩
      have HS := Lib.hid (show ∀ k j l, j < 8 → l ≤ 8 → -103311504687857664 ≤ sm (S k j) l ∧ sm (S k j) l ≤ 103311504687857664 from by
        intro k j l hj hl
        have key : ∀ l : Nat, l ≤ 8 → -(12913918687051776 * (l : Int)) ≤ sm (S k j) l ∧ sm (S k j) l ≤ 12913918687051776 * (l : Int) := by
          intro l
          induction l with
          | zero => intro _; simp [sm]
          | succ l ih =>
            intro hl
            have ih := ih (by omega)
            have e : S k j l = TF.tm l k * TF.mm l * g (8 * l + j) := by rw [hS]
            have b1 := wt_bd _ _ (tm_any l k) (nz_in l (by omega)).2.2.2.2
            have b2 := prod_bd2 _ _ 27744 465467080704 (by decide) b1 (HGB.out (8 * l + j) (by omega))
            simp only [sm, e]
            omega
        have := key l hl
        omega)
      have HI0 := HI
      clear HI
      obtain ⟨X, hX⟩ : ∃ X : Nat → Int, X = fun m => TF.near (TF.s8 (S (m / 8) (m % 8))) := ⟨_, rfl⟩
      go_loopw [8] (fun a v => ∃ k : Nat, k ≤ 8 ∧ a = .int .i64 (k : Int) ∧ FInv w f g (xt X (8 * k)) (w.heap.size + 2) v) (fun a _ => 8 - (intOf a).toNat)
      case atStart => exact ⟨0, by decide, rfl, by rw [Nat.mul_zero, xt_zero]; exact HI0.out⟩
      case round =>
        obtain ⟨k, hk, rfl, hI⟩ := hrel
        have HI := Lib.hid hI
        clear hI
        by_cases hlk : k < 8
        · have dk : decide ((k : Int) < 8) = true := by simp; omega
          go_wp2_with fail
          go_loopw [9] (fun b v => ∃ j : Nat, j ≤ 8 ∧ b = .int .i64 (j : Int) ∧ FInv w f g (xt X (8 * k + j)) (w.heap.size + 2) v) (fun b _ => 8 - (intOf b).toNat)
          case atStart => exact ⟨0, by decide, rfl, HI.out⟩
          case round =>
            obtain ⟨j, hj, rfl, hI⟩ := hrel
            have HI := Lib.hid hI
            clear hI
            by_cases hlj : j < 8
            · have dj : decide ((j : Int) < 8) = true := by simp; omega
              go_wp2_with fail
              go_loopw [10, 11] (fun s c v => ∃ l : Nat, l ≤ 8 ∧ s = .int .i64 (273681612800 + sm (S k j) l) ∧ c = .int .i64 (l : Int) ∧ FInv w f g (xt X (8 * k + j)) (w.heap.size + 2) v) (fun _ c _ => 8 - (intOf c).toNat)
              case atStart => exact ⟨0, by decide, rfl, rfl, HI.out⟩
              case round =>
                obtain ⟨l, hl, rfl, rfl, hI⟩ := hrel
                have HI := Lib.hid hI
                clear hI
                by_cases hll : l < 8
                · have dl : decide ((l : Int) < 8) = true := by simp; omega
                  have hm2 : 8 * l + j < 64 := by omega
                  have q1 : World.cell? wr ⟨w.heap.size + 2, 8 * l + j, none⟩ = some (.int .i64 (g (8 * l + j))) := by rw [HI.out.2.2.1.cell, blk_at _ _ hm2]
                  have hbas := fun u => basis_c (l : Int) (k : Int) u
                  rw [tz_in l k hll hlk] at hbas
                  obtain ⟨z1, z2, z3, z4, z5, z6⟩ := nz_in l hll
                  have hnor := fun u => norm_c (l : Int) u
                  rw [z1] at hnor
                  have bt := tm_bd l k hll hlk
                  have b1 := wt_bd _ _ bt ⟨z5, z6⟩
                  have b3 := HGB.out (8 * l + j) hm2
                  have b2 := prod_bd2 _ _ 27744 465467080704 (by decide) b1 b3
                  have bs := HS.out k j l hlj hl
                  have HTe := Lib.hid (show sm (S k j) (l + 1) = sm (S k j) l + TF.tm l k * TF.mm l * g (8 * l + j) by rw [hS]; rfl)
                  clear z1
                  generalize sm (S k j) l = a at *
                  generalize TF.tm l k = t at *
                  generalize TF.mm l = m at *
                  generalize TF.nm l = n at *
                  generalize g (8 * l + j) = x at *
                  generalize hqq : t * m = q at *
                  generalize hpp : q * x = p at *
                  have r1 := cell_regrown q1
                  clear q1
                  have w3 := IntWalk.i64_in (8 * (l : Int) + (j : Int)) (by omega)
                  have w1 := IntWalk.i64_in (8 * (l : Int)) (by omega)
                  have w4 := IntWalk.i64_in p (by omega)
                  have w5 := IntWalk.i64_in (273681612800 + a + p) (by omega)
                  have w6 := IntWalk.i64_in q (by omega)
                  have w7 := IntWalk.i64_in m (by omega)
                  have n0 : (n == 0) = false := by simp; omega
                  have n2 : (8 * (l : Int) + (j : Int)).toNat = 8 * l + j := by omega
                  have g0 : ¬ n = 0 := by omega
                  have g3 : 0 ≤ 8 * (l : Int) + (j : Int) := by omega
                  have g4 : 8 * (l : Int) + (j : Int) < 64 := by omega
                  go_upto_region 22 with fail
                  refine wp_region_quiet_below (by kernel_rfl) (by kernel_rfl) ?_
                  repeat (quiet_step (first | (go_at_call 13; exact Calls.regrown_of (hbas _)) | (go_at_call 15; exact Calls.regrown_of (hnor _))))
                  refine wpQuiet_nil ?_
                  intro _ hw'
                  obtain ⟨⟨dq, osq⟩, hw''⟩ := hw'
                  have hbq := below_regrown wr dq osq
                  rw [← hw''] at hbq
                  have HI3 := Lib.hid (HI.out.below hbq)
                  clear hbq hw'' r1 w1 w3 w4 w5 w6 w7 hbas hnor
                  go_wp2_with fail
                  go_roundw
                  case rel => exact ⟨l + 1, by omega, congrArg (Value.int .i64) (by rw [HTe.out]; omega), congrArg (Value.int .i64) (by omega), HI3.out⟩
                  case measure => simp [intOf]; omega
                · have e : l = 8 := by omega
                  subst e
                  have bs := HS.out k j 8 hlj (by decide)
                  have hm1 : 8 * k + j < 64 := by omega
                  have hXe : X (8 * k + j) = TF.near (sm (S k j) 8) := by
                    rw [hX, sm_s8]
                    have a1 : (8 * k + j) / 8 = k := by omega
                    have a2 : (8 * k + j) % 8 = j := by omega
                    simp only [a1, a2]
                  have hqn := quo_near (sm (S k j) 8)
                  rw [← hXe] at hqn
                  have HQN := Lib.hid hqn
                  have q0 : World.cell? wr ⟨w.heap.size + 3, 8 * k + j, none⟩ = some (.int .i64 (xt X (8 * k + j) (8 * k + j))) := by rw [HI.out.2.2.2.1.cell, blk_at _ _ hm1]
                  have f0 := HI.out.2.2.2.1.free (8 * k + j)
                  have HSet := Lib.hid (HI.out.set2 (Nat.le_refl _) (8 * k + j) (X (8 * k + j)))
                  have HXu := Lib.hid (xt_up X (8 * k + j))
                  rw [HXu.out] at HSet
                  have HXu2 := HXu.out
                  have hnb : -200000 ≤ X (8 * k + j) ∧ X (8 * k + j) ≤ 200000 := by rw [hXe]; unfold TF.near; omega
                  clear hqn hXe HXu
                  generalize X (8 * k + j) = xv at *
                  generalize sm (S k j) 8 = a at *
                  have w1 := IntWalk.i64_in (8 * (k : Int)) (by omega)
                  have w2 := IntWalk.i64_in (8 * (k : Int) + (j : Int)) (by omega)
                  have n1 : (8 * (k : Int) + (j : Int)).toNat = 8 * k + j := by omega
                  have g1 : 0 ≤ 8 * (k : Int) + (j : Int) := by omega
                  have g2 : 8 * (k : Int) + (j : Int) < 64 := by omega
                  obtain ⟨h1, h2⟩ | ⟨h1, h2⟩ := HQN.out
                  · have dr : decide ((273681612800 + a).tmod 547363225600 < 0) = true := by simpa using h1
                    have h3 : (273681612800 + a).tdiv 547363225600 = xv + 1 := by omega
                    have w5 := IntWalk.i64_in (xv + 1 - 1) (by omega)
                    have w6 := IntWalk.i64_in (xv + 1) (by omega)
                    have hup : FInv w f g (xt X (8 * k + (j + 1))) (w.heap.size + 2) ((wr.setCell ⟨w.heap.size + 1 + 1 + 1, 8 * k + j, none⟩ (.int .i64 (xv + 1))).setCell ⟨w.heap.size + 1 + 1 + 1, 8 * k + j, none⟩ (.int .i64 xv)) := by
                      have A := (HI.out.set2 (Nat.le_refl _) (8 * k + j) (xv + 1)).set2 (Nat.le_refl _) (8 * k + j) (xv + 1 - 1)
                      rw [up_up, show xv + 1 - 1 = xv by omega, HXu2] at A
                      exact A
                    have HUp := Lib.hid hup
                    clear HQN h1 h2 hup HSet
                    go_wp2_with fail
                    go_roundw
                    case rel => exact ⟨j + 1, by omega, congrArg (Value.int .i64) (by omega), HUp.out⟩
                    case measure => simp [intOf]; omega
                  · have dr : decide ((273681612800 + a).tmod 547363225600 < 0) = false := by simpa using h1
                    have w6 := IntWalk.i64_in xv (by omega)
                    clear HQN h1
                    go_wp2_with fail
                    go_roundw
                    case rel => exact ⟨j + 1, by omega, congrArg (Value.int .i64) (by omega), HSet.out⟩
                    case measure => simp [intOf]; omega
            · have e : j = 8 := by omega
              subst e
              go_wp2_with fail
              go_roundw
              case rel => exact ⟨k + 1, by omega, congrArg (Value.int .i64) (by omega), by rw [show 8 * (k + 1) = 8 * k + 8 by omega]; exact HI.out⟩
              case measure => simp [intOf]; omega
        · have e : k = 8 := by omega
          subst e
          have hy : ∀ n, n < 64 → xt X (8 * 8) n = TF.near (TF.iv (fun i j => cl (f (8 * i + j))) (n / 8) (n % 8)) := by
            intro n hn
            unfold xt
            rw [if_pos (by omega), hX]
            show TF.near _ = _
            congr 1
            rw [hS]
            unfold TF.iv
            apply TF.s8_congr
            intro i hi
            show TF.tm i (n / 8) * TF.mm i * g (8 * i + n % 8) = _
            rw [← HG.out]
            have e2 : stt T 8 0 0 (8 * i + n % 8) = TF.s8 (T i (n % 8)) := by
              unfold stt
              rw [if_pos (by omega)]
              have a1 : (8 * i + n % 8) / 8 = i := by omega
              have a2 : (8 * i + n % 8) % 8 = n % 8 := by omega
              rw [a1, a2]
            rw [e2, hT]
            rfl
          have hI := HI.out
          rw [FInv, blk_congr hy] at hI
          obtain ⟨y, hye⟩ : ∃ y, (fun n => TF.near (TF.iv (fun i j => cl (f (8 * i + j))) (n / 8) (n % 8))) = y := ⟨_, rfl⟩
          rw [hye] at hI
          have HYe := Lib.hid hye
          clear hye hy
          clear HI HI0 HS HG HGB hS hT hX HC
          obtain ⟨h1, hres, h3, hY, hb⟩ := hI
          have HRow := Lib.hid (setRow_heap wr (w.heap.size + 1) _ (blk y) _ _ hres)
          have hW : Below w.heap.size w (wr.setRow (w.heap.size + 1) (blk y)) := by
            refine ⟨hb.os, hb.tape, hb.output, by rw [setRow_size]; exact hb.size, fun j hj => ?_⟩
            rw [setRow_other _ _ _ _ (by omega)]
            exact hb.block j hj
          have HW := Lib.hid hW
          clear hW hb h1 h3
          go_wp2_with (first | (refine wpList_load_row rfl 27 _ rfl (w.heap.size + 2 + 1) rfl 27 (blk y) (0, 0) _ hY Try.underlying27 rfl (by rw [blk_size]; kernel_rfl) ?_) | (refine wpList_store_row rfl 27 _ _ rfl (w.heap.size + 1) (blk y) rfl rfl 27 _ hres (by rw [blk_size]; kernel_rfl) (by simp only [blk_size]) (blk_one _) ?_))
          refine bodyPost_ret (v := .agg (blk y)) (by simp [results, Act.put, Try.results21, asAddr, run_loadVar_row _ _ _ _ _ _ _ HRow.out Try.underlying27 rfl (by rw [blk_size]; kernel_rfl)]) rfl ⟨by rw [← HYe.out], HW.out⟩
end Go.Proofs.Ytkecdfhpoeknkaa
