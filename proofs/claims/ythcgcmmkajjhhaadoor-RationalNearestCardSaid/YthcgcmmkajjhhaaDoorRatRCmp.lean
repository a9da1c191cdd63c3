/- The reference's Cmp. -/
import Derived.Test.YthcgcmmkajjhhaaDoorRatX
import Derived.Test.YthcgcmmkajjhhaaDoorRatCM
import Derived.Test.YthcgcmmkajjhhaaDoorRatAw
import Derived.Test.YthcgcmmkajjhhaaDoorGrow4
import Derived.Deep.Cut
import Derived.Deep.DeepCutAuto
namespace Go.Proofs.YthcgcmmkajjhhaaDoor
set_option linter.unusedVariables false
set_option linter.unusedSimpArgs false
open Go.RowKit Go.Sort

theorem alloc_wide (o : Oper) (a : Act) (w : World) (h : o.op = .alloc 43) : (execOp a.eval o).run Tryd.prog w = .ok (.value (ptr w.heap.size)) (w.alloc (.cells #[.int .u64 0, .int .u64 0] 43)) := by
  obtain ⟨dst, op, ty, pos, after, guard⟩ := o
  simp only at h
  subst h
  go_simp
  rfl

theorem store_wide (o : Oper) (a : Act) (w : World) (p q : Tmp) (B : Nat) (ho : o.op = .store 43 (.tmp p) (.tmp q)) (hp : a.tmps.getD p undef = ptr B) (hw : w.heap[B]? = some (.cells #[.int .u64 0, .int .u64 0] 43 (0, 0)))
    (hq : ∃ x y, a.tmps.getD q undef = .agg #[.int .u64 x, .int .u64 y]) : ∃ w', (execOp a.eval o).run Tryd.prog w = .ok .skip w' ∧ w.grownBy w' (some B) ∧ w'.heap[B]? = some (.cells (a.tmps.getD q undef).cells 43 (0, 0)) := by
  obtain ⟨x, y, hq⟩ := hq
  exact store_run o a w p q B _ _ ho hp hw hq (by kernel_rfl) rfl (by simp [Value.oneCell'])

theorem grow_call {P : Program} {f : FuncId} {args : Array Value} {u : World} {v : Value} (N : Nat) (h : Calls P f args u (fun e w' => e = .returned v ∧ Below u.heap.size u w')) (hN : N = u.heap.size) :
    Calls P f args u fun e w'' => e = .returned v ∧ Below N u w'' := by rw [hN]; exact h
theorem grow_size (w : World) (os : Array Obj) : w.heap.size + os.size = (grow w os).heap.size := by simp [grow]
theorem ratnat (a : Int) : ((a.natAbs : Nat) : Int) = if a < 0 then -a else a := by split <;> omega
theorem nat_bd {a : Int} (h : -9223372036854775808 ≤ a ∧ a ≤ 9223372036854775807) : 0 ≤ ((a.natAbs : Nat) : Int) ∧ ((a.natAbs : Nat) : Int) ≤ 18446744073709551615 := by rw [ratnat]; split <;> omega
theorem nat_bd' {a : Int} (h : -9223372036854775808 ≤ a ∧ a ≤ 9223372036854775807) : 0 ≤ ((a.natAbs : Nat) : Int) ∧ ((a.natAbs : Nat) : Int) ≤ 9223372036854775808 := by rw [ratnat]; split <;> omega
theorem hi_mul (x y : Int) (hx : 0 ≤ x ∧ x ≤ 9223372036854775808) (hy : 0 ≤ y ∧ y ≤ 9223372036854775807) : 0 ≤ RM.hi64 (x * y) ∧ RM.hi64 (x * y) ≤ 18446744073709551615 := by
  have h1 : 0 ≤ x * y := Int.mul_nonneg hx.1 hy.1
  have h2 : x * y ≤ 9223372036854775808 * 9223372036854775807 := Int.mul_le_mul hx.2 hy.2 hy.1 (by omega)
  unfold RM.hi64
  omega
/-- the sign of parts that are less or not, of values below zero or not -/
def signL (l s : Bool) : Int := if l = s then 1 else -1
theorem rmag_b (n : Int) (hn : -9223372036854775808 ≤ n ∧ n ≤ 9223372036854775807) (w : World) :
    Calls Tryd.prog 27 #[.int .i64 n] w fun e w' => e = .returned (.int .u64 (n.natAbs : Int)) ∧ Below w.heap.size w w' :=
  (rmag_c n hn w).mono fun _ _ ⟨h1, h2⟩ => ⟨h1, by rw [h2]; exact Below.refl _ _⟩

theorem ratneq_run (a b c d : Int) (hne : ¬ (a = c ∧ b = d)) (u : World) : (binOp .eql 23 (.agg #[.int .i64 a, .int .i64 b]) (.agg #[.int .i64 c, .int .i64 d])).run Tryd.prog u = .ok (.bool false) u := by
  by_cases e : a = c
  · have e2 : (b == d) = false := beq_eq_false_iff_ne.2 (fun e2 => hne ⟨e, e2⟩)
    subst e
    clear hne
    go_simp
  · have e2 : (a == c) = false := beq_eq_false_iff_ne.2 e
    clear hne
    go_simp

set_option maxHeartbeats 1000000 in
theorem rcmp_more (a b c d : Int) (ha : -9223372036854775808 ≤ a ∧ a ≤ 9223372036854775807) (hb : 1 ≤ b ∧ b ≤ 9223372036854775807) (hc : -9223372036854775808 ≤ c ∧ c ≤ 9223372036854775807) (hd : 1 ≤ d ∧ d ≤ 9223372036854775807)
    (k1 : RM.ok a b = true) (k2 : RM.ok c d = true) (hne : ¬ (a = c ∧ b = d)) (hs : (a < 0 ∧ c < 0) ∨ (0 ≤ a ∧ 0 ≤ c)) (w : World) :
    Calls Tryd.prog 21 #[.agg #[.int .i64 a, .int .i64 b], .agg #[.int .i64 c, .int .i64 d]] w fun e w' => e = .returned (.int .i64 (signL (RM.lessB (a.natAbs * d) (c.natAbs * b)) (decide (a < 0)))) ∧ Below w.heap.size w w' := by
  have K0 : ((w.alloc (.cells #[.int .i64 a, .int .i64 b] 23)).alloc (.cells #[.int .i64 c, .int .i64 d] 23)).cell? ⟨w.heap.size, 0, none⟩ = some (.int .i64 a) ∧ ((w.alloc (.cells #[.int .i64 a, .int .i64 b] 23)).alloc (.cells #[.int .i64 c, .int .i64 d] 23)).cell? ⟨w.heap.size, 1, none⟩ = some (.int .i64 b)
      ∧ ((w.alloc (.cells #[.int .i64 a, .int .i64 b] 23)).alloc (.cells #[.int .i64 c, .int .i64 d] 23)).cell? ⟨w.heap.size + 1, 0, none⟩ = some (.int .i64 c) ∧ ((w.alloc (.cells #[.int .i64 a, .int .i64 b] 23)).alloc (.cells #[.int .i64 c, .int .i64 d] 23)).cell? ⟨w.heap.size + 1, 1, none⟩ = some (.int .i64 d) := by
    refine ⟨?_, ?_, ?_, ?_⟩ <;> go_simp
  have B0 : Below w.heap.size w ((w.alloc (.cells #[.int .i64 a, .int .i64 b] 23)).alloc (.cells #[.int .i64 c, .int .i64 d] 23)) := ((Below.refl _ _).alloc (Nat.le_refl _) _).alloc (by simp) _
  have HK0 := Lib.hid K0
  have HB0 := Lib.hid B0
  have hneq := ratneq_run a b c d hne
  clear K0 B0 hne
  go_enter Tryd.func21, Tryd.ntmps21
  go_wp2_with fail
  refine (rvalid_c _ _ (by omega) (by omega) _).mono ?_
  rintro e w1 ⟨rfl, hb1⟩
  have HK1 := Lib.hid (four_below hb1 HK0.out)
  have HB1 := Lib.hid (HB0.out.trans (hb1.mono HB0.out.size))
  clear hb1
  obtain ⟨q0, q1, q2, q3⟩ := HK1.out
  go_wp2_with fail
  refine (rvalid_c _ _ (by omega) (by omega) _).mono ?_
  rintro e w2 ⟨rfl, hb2⟩
  have HK2 := Lib.hid (four_below hb2 HK1.out)
  have HB2 := Lib.hid (HB1.out.trans (hb2.mono HB1.out.size))
  clear hb2 q0 q1 q2 q3
  obtain ⟨q0, q1, q2, q3⟩ := HK2.out
  have hz : decide (a < 0) = decide (c < 0) := by rcases hs with ⟨s1, s2⟩ | ⟨s1, s2⟩ <;> simp [s1, s2] <;> omega
  have hz1 : decide (a < 0) = true ∨ decide (a < 0) = false := by cases decide (a < 0) <;> simp
  have gA : ∀ o a u v, growAt Tryd.prog o a u v = growUpon Tryd.prog u v ((execOp a.eval o).run Tryd.prog u) := fun _ _ _ _ => rfl
  have gV : ∀ u v x w', growUpon Tryd.prog u v (.ok (.value x) w') = (w' = u ∧ x = v) := fun _ _ _ _ => rfl
  have gE : ∀ u v g args w', growUpon Tryd.prog u v (.ok (.enter g args) w') = (w' = u ∧ Calls Tryd.prog g args u (fun e w'' => e = .returned v ∧ Below u.heap.size u w'')) := fun _ _ _ _ _ => rfl
  have wd : IntKind.u64.wrap d = d := by simp only [IntKind.wrap_u64]; omega
  have wb : IntKind.u64.wrap b = b := by simp only [IntKind.wrap_u64]; omega
  have HH1 := Lib.hid (hi_mul (a.natAbs) d (nat_bd' ha) (by omega))
  have HH2 := Lib.hid (hi_mul (c.natAbs) b (nat_bd' hc) (by omega))
  rcases hz1 with hz1 | hz1
  all_goals
    have hz2 := hz.symm.trans hz1
    have hz3 : decide (a ≥ 0) = !decide (a < 0) := by by_cases h : a < 0 <;> simp [h] <;> omega
    have hz4 : decide (0 ≤ a) = !decide (a < 0) := hz3
    rw [hz1] at hz3 hz4
    clear hz hs
    go_wp2_with fail
    go_upto_region 7 with fail
    go_cut [5, 6] (fun s5 s6 wx => ∃ B C : Nat, s5 = .pointer (some ⟨B, 0, none⟩) ∧ s6 = .pointer (some ⟨C, 0, none⟩) ∧ wx.cell? ⟨B, 0, none⟩ = some (.int .u64 (RM.hi64 (a.natAbs * d))) ∧ wx.cell? ⟨B, 1, none⟩ = some (.int .u64 (RM.lo64 (a.natAbs * d))) ∧ wx.cell? ⟨C, 0, none⟩ = some (.int .u64 (RM.hi64 (c.natAbs * b))) ∧ wx.cell? ⟨C, 1, none⟩ = some (.int .u64 (RM.lo64 (c.natAbs * b))) ∧ Below w2.heap.size w2 wx)
    case first =>
      have r0 := cell_regrown q0
      have r1 := cell_regrown q1
      have r2 := cell_regrown q2
      have r3 := cell_regrown q3
      refine wp_region_grow 18 43 #[.int .u64 0, .int .u64 0] (fun v => ∃ x y, v = .agg #[.int .u64 x, .int .u64 y]) (by kernel_rfl) (by kernel_rfl) (by kernel_rfl) alloc_wide (by kernel_rfl) store_wide ?_
      simp only [List.take_succ_cons, List.take_zero]
      (repeat' (refine lexW_step (fun K hK => ?_); simp only [isMade, keptAt]; go_simp; first | (refine hK _ ?_; clear hK K) | (refine ⟨_, fun p => grow_call _ (rmag_b _ (by omega) _) (grow_size _ _), hK _ ?_⟩; clear hK K) | (refine ⟨_, fun p => grow_call _ (times_c _ _ (nat_bd ‹_›) (by omega) _) (grow_size _ _), hK _ ?_⟩; clear hK K)))
      clear HK0 HK1 HB0 HB1
      refine lexW_nil (Behind2.behind (ms := [(14, 5), (15, 6)]) (ks := [(5, 36), (6, 43)]) (tail := []) (mk := fun β a => (a.put (some 5) (ptr (β 14))).put (some 6) (ptr (β 15))) (by kernel_rfl) (by kernel_rfl) (by kernel_rfl) (fun _ _ => rfl) ⟨?_, ?_, ?_⟩)
      · intro pq hpq
        simp only [List.mem_cons, List.not_mem_nil, or_false] at hpq
        rcases hpq with rfl | rfl <;> exact ⟨_, _, rfl⟩
      · intro ip hip
        simp only [List.mem_cons, List.not_mem_nil, or_false] at hip
        rcases hip with rfl | rfl <;> simp
      · intro β w3 hb3 hc hd
        have c1 : Cel w3 (β 14) 43 #[.int .u64 (RM.hi64 (a.natAbs * d)), .int .u64 (RM.lo64 (a.natAbs * d))] := (hc (14, 5) (by simp)).2
        have c2 : Cel w3 (β 15) 43 #[.int .u64 (RM.hi64 (c.natAbs * b)), .int .u64 (RM.lo64 (c.natAbs * b))] := (hc (15, 6) (by simp)).2
        clear hc hd
        unfold wpList
        go_simp
        simp only [ptr]
        go_wp2_with fail
        go_meet
        exact ⟨β 14, β 15, rfl, rfl, c1.cell 0, c1.cell 1, c2.cell 0, c2.cell 1, hb3⟩
    case rest =>
      obtain ⟨B, C, rfl, rfl, c0, c1, d0, d1, hb3⟩ := hcut
      obtain ⟨p0, p1, p2, p3⟩ := four_below hb3 HK2.out
      have HB3 := Lib.hid (HB2.out.trans (hb3.mono HB2.out.size))
      clear HK0 HK1 HK2 HB0 HB1 HB2 hb3 q0 q1 q2 q3
      have s0 := cell_regrown c0
      have s1 := cell_regrown c1
      have s2 := cell_regrown d0
      have s3 := cell_regrown d1
      have s4 := cell_regrown p0
      go_upto_region 8 with fail
      refine wp_region_grow 7 43 #[.int .u64 0, .int .u64 0] (fun v => ∃ x y, v = .agg #[.int .u64 x, .int .u64 y]) (by kernel_rfl) (by kernel_rfl) (by kernel_rfl) alloc_wide (by kernel_rfl) store_wide ?_
      simp only [List.take_succ_cons, List.take_zero]
      (repeat' (refine lexW_step (fun K hK => ?_); simp only [isMade, keptAt]; go_simp; first | (refine hK _ ?_; clear hK K) | (refine ⟨_, fun p => grow_call _ (rless_c _ _ HH1.out HH2.out _) (grow_size _ _), hK _ ?_⟩; clear hK K)))
      have HF := Lib.hid hz3
      clear hz3 hz4 s0 s1 s2 s3 s4 p0 p1 p2 p3 c0 c1 d0 d1
      refine lexW_nil (Behind2.behind (ms := []) (ks := []) (tail := []) (mk := fun _ a => a) (by kernel_rfl) (by kernel_rfl) (by kernel_rfl) (fun _ _ => by kernel_rfl) ⟨fun _ h => (by cases h), fun _ h => (by cases h), ?_⟩)
      intro β w3 hb3 _ _
      have HB4 := Lib.hid (HB3.out.trans (hb3.mono HB3.out.size))
      clear hb3
      unfold wpList
      rcases hl : RM.lessB (a.natAbs * d) (c.natAbs * b) with _ | _
      all_goals
        go_wp2_with fail
        go_ret
        refine ⟨ret_int ?_, HB4.out⟩
        simp [hl, signL, hz1]
end Go.Proofs.YthcgcmmkajjhhaaDoor
