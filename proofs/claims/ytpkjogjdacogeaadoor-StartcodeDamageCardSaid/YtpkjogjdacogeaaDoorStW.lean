/- Rows of what was found, and of defects; append onto them; clean. -/
import Derived.Test.YtpkjogjdacogeaaDoorStN
namespace Go.Proofs.YtpkjogjdacogeaaDoor
open Go.RowKit
set_option linter.unusedVariables false
set_option linter.unusedSimpArgs false

theorem Tryd.infoFound : (Tryd.prog.info? 35).map (fun i => (i.zero, i.size, i.bytes)) = some (some (.agg #[.int .i64 0, .slice none 0 0, .int .i64 0, .int .i64 0, .int .i64 0]), 5, 56) := by kernel_rfl
theorem Tryd.infoDefect : (Tryd.prog.info? 38).map (fun i => (i.zero, i.size, i.bytes)) = some (some (.agg #[.int .i64 0, .int .i64 0]), 2, 16) := by kernel_rfl
theorem Tryd.infoRFound : (Tryd.prog.info? 36).map (fun i => (i.zero, i.size, i.bytes)) = some (some (.agg #[.int .i64 0, .slice none 0 0, .int .i64 0, .int .i64 0, .int .i64 0]), 5, 56) := by kernel_rfl
theorem Tryd.infoRDefect : (Tryd.prog.info? 39).map (fun i => (i.zero, i.size, i.bytes)) = some (some (.agg #[.int .i64 0, .int .i64 0]), 2, 16) := by kernel_rfl

theorem rclean_c (w : World) (v : Value) (b : List Nat) (h : Sl w v b) (hb : b.length < 1099511627776) :
    Calls Tryd.prog 17 #[v] w fun e w' => e = .returned (.bool (decide (SM.bl b = 0))) ∧ w = w' := by
  obtain ⟨A, c, rfl⟩ := h.len
  have H := Lib.hid h
  clear h
  go_enter Tryd.func17, Tryd.ntmps17
  go_wp2_with fail
  go_loopw [3] (fun q wr => ∃ k : Nat, k ≤ b.length ∧ q = .int .i64 (k : Int) ∧ (∀ x ∈ b.take k, x = 0) ∧ wr = w) (fun q _ => b.length - (intOf q).toNat)
  case atStart => exact ⟨0, Nat.zero_le _, rfl, by simp, rfl⟩
  case round =>
    obtain ⟨k, hk, rfl, hz, rfl⟩ := hrel
    have Hz := Lib.hid hz
    clear hz
    by_cases hlt : k < b.length
    · obtain ⟨g, o, cap, hv, hcap, hg, hcell⟩ := H.out.some_ (by omega)
      injection hv with hv _ hc2
      subst hv hc2
      have d0 := hcell k hlt
      have hsn := take_snoc b k hlt
      have hmem : b.getD k 0 ∈ b := by simp only [List.getD, List.getElem?_eq_getElem hlt]; exact List.getElem_mem hlt
      have hnz : b.getD k 0 ≠ 0 → decide (SM.bl b = 0) = false := fun h => decide_eq_false (fun e => h ((SM.bl_zero_iff b).1 e _ hmem))
      generalize b.getD k 0 = y at *
      have Hsn := Lib.hid hsn
      have Hnz := Lib.hid hnz
      clear hcell hsn hmem hnz
      by_cases hy : y = 0
      · subst hy
        go_wp2_with fail
        go_roundw
        case rel =>
          refine ⟨k + 1, by omega, by go_num, ?_, (by first | rfl | trivial)⟩
          intro x hx
          rw [Hsn.out, List.mem_append] at hx
          rcases hx with hx | hx
          · exact Hz.out x hx
          · simpa using hx
        case measure => simp [intOf]; omega
      · have hyb : (((y : Nat) : Int) != 0) = true := by rw [bne_iff_ne]; omega
        have Hn := Lib.hid (Hnz.out hy)
        clear hy
        go_wp2_with fail
        go_ret
        rw [Hn.out]
        exact ⟨rfl, rfl⟩
    · obtain rfl : k = b.length := by omega
      have hz := Hz.out
      rw [List.take_length] at hz
      have Hd := Lib.hid (decide_eq_true ((SM.bl_zero_iff b).2 hz))
      clear hz
      go_wp2_with fail
      go_ret
      rw [Hd.out]
      exact ⟨rfl, rfl⟩

/-- a payload: it lies below 'base', or in a block of bytes of the call's own -/
def Pay (w : World) (base : Nat) (u : Value) (p : List Nat) : Prop := Sl w u p ∧ ∀ i, p ≠ [] → u.ownBlock = some i → i < base ∨ ∃ cs, Cel w i 5 cs
theorem Pay.ow {w : World} {base b : Nat} {u : Value} {p : List Nat} (h : Ow w b u p) : Pay w base u p := by
  refine ⟨h.sl, fun i hp hi => .inr ?_⟩
  rcases h with ⟨a, rfl, rfl⟩ | h
  · exact absurd rfl hp
  · rcases h.2 with ⟨rfl, h2⟩ | ⟨g, cap, cur, rfl, hb, hg, h3, h4, h5⟩
    · simp [Value.ownBlock] at hi
    · simp [Value.ownBlock] at hi
      subst hi
      exact ⟨cur, hg⟩
theorem Pay.to {w w' : World} {base : Nat} {u : Value} {p : List Nat} {S : Nat → Prop} (h : Pay w base u p) (k : Touch w w' S) (h2 : ∀ i cs, Cel w i 5 cs → ¬ S i) (h3 : ∀ i, i < base → ¬ S i) : Pay w' base u p := by
  have hS : ∀ i, p ≠ [] → u.ownBlock = some i → ¬ S i := by
    intro i hp hi
    rcases h.2 i hp hi with h4 | ⟨cs, h4⟩
    · exact h3 i h4
    · exact h2 i cs h4
  refine ⟨h.1.to k hS, fun i hp hi => ?_⟩
  rcases h.2 i hp hi with h4 | ⟨cs, h4⟩
  · exact .inl h4
  · exact .inr ⟨cs, h4.kept k (h2 i cs h4)⟩

def cell5 (q : SM.Hit × Value) : List Value := [.int .i64 q.1.t, q.2, .int .i64 (q.1.f : Int), .int .i64 (q.1.o : Int), .int .i64 (q.1.x : Int)]
def cells5 (qs : List (SM.Hit × Value)) : List Value := qs.flatMap cell5
theorem cells5_app (a b : List (SM.Hit × Value)) : cells5 (a ++ b) = cells5 a ++ cells5 b := by simp [cells5]
theorem cells5_length (qs : List (SM.Hit × Value)) : (cells5 qs).length = qs.length * 5 := by
  induction qs with
  | nil => rfl
  | cons q r ih => simp only [cells5, List.flatMap_cons, List.length_append, List.length_cons] at ih ⊢; rw [ih]; simp [cell5]; omega
theorem cells5_get (qs : List (SM.Hit × Value)) : ∀ k q, qs[k]? = some q → ∀ j, j < 5 → (cells5 qs)[k * 5 + j]? = (cell5 q)[j]? := by
  induction qs with
  | nil => intro k q h; simp at h
  | cons q0 r ih =>
    intro k q h j hj
    have hl : (cell5 q0).length = 5 := rfl
    show (cell5 q0 ++ cells5 r)[k * 5 + j]? = _
    cases k with
    | zero =>
      simp at h
      subst h
      rw [List.getElem?_append_left (by omega)]
      simp
    | succ k =>
      rw [List.getElem?_append_right (by omega), hl, show (k + 1) * 5 + j - 5 = k * 5 + j by omega]
      exact ih k q (by simpa using h) j hj

/-- v is a row of the call's own, of elements of type T, with what was found -/
def FRow (w : World) (base : Nat) (T : TypeId) (v : Value) (us : List SM.Hit) : Prop :=
  ∃ qs : List (SM.Hit × Value), qs.map (·.1) = us ∧ w.ownsRow base T 5 v us.length (cells5 qs) ∧ ∀ q ∈ qs, Pay w base q.2 q.1.p
theorem FRow.nil (w : World) (base : Nat) (T : TypeId) : FRow w base T (.slice none 0 0) [] := ⟨[], rfl, World.ownsRow_nil _ _ _ _, by simp⟩
theorem FRow.to {w w' : World} {base : Nat} {T : TypeId} {v : Value} {us : List SM.Hit} {S : Nat → Prop} (h : FRow w base T v us) (k : Touch w w' S) (h1 : ∀ i, v.ownBlock = some i → ¬ S i) (h2 : ∀ i cs, Cel w i 5 cs → ¬ S i) (h3 : ∀ i, i < base → ¬ S i) : FRow w' base T v us := by
  obtain ⟨qs, e, ho, hp⟩ := h
  exact ⟨qs, e, own_kept ho k h1, fun q hq => (hp q hq).to k h2 h3⟩
theorem FRow.to0 {w w' : World} {base : Nat} {T : TypeId} {v : Value} {us : List SM.Hit} (h : FRow w base T v us) (k : Touch w w' (fun _ => False)) : FRow w' base T v us :=
  h.to k (fun _ _ h => h) (fun _ _ _ h => h) (fun _ _ h => h)
theorem FRow.slice {w : World} {base : Nat} {T : TypeId} {v : Value} {us : List SM.Hit} (h : FRow w base T v us) : ∃ A c, v = .slice A us.length c := by
  obtain ⟨qs, e, ho, hp⟩ := h
  exact own_slice ho
theorem own_row_apart {w : World} {base : Nat} {e t : TypeId} {size n i : Nat} {v : Value} {xs : List Value} (h : w.ownsRow base e size v n xs) (hv : v.ownBlock = some i) (hne : e ≠ t) (cs : Array Value) : ¬ Cel w i t cs := by
  intro hc
  exact own_apart h hc hne hv
theorem FRow.snoc {w w' : World} {base : Nat} {T : TypeId} {v v' : Value} {us : List SM.Hit} {h : SM.Hit} {u : Value} {qs : List (SM.Hit × Value)} (hT : T ≠ 5) (e : qs.map (·.1) = us) (ho : w.ownsRow base T 5 v us.length (cells5 qs)) (hp : ∀ q ∈ qs, Pay w base q.2 q.1.p)
    (hu : Pay w base u h.p) (ho' : w'.ownsRow base T 5 v' (us.length + 1) (cells5 qs ++ cell5 (h, u))) (k : Touch w w' (fun i => base ≤ i ∧ v.ownBlock = some i)) : FRow w' base T v' (us ++ [h]) := by
  have h2 : ∀ i cs, Cel w i 5 cs → ¬ (base ≤ i ∧ v.ownBlock = some i) := fun i cs hc hS => own_row_apart ho hS.2 hT cs hc
  have h3 : ∀ i, i < base → ¬ (base ≤ i ∧ v.ownBlock = some i) := fun i hi hS => by omega
  refine ⟨qs ++ [(h, u)], by simp [e], ?_, ?_⟩
  · rw [cells5_app, List.length_append]
    simpa [cells5] using ho'
  · intro q hq
    rw [List.mem_append] at hq
    rcases hq with hq | hq
    · exact (hp q hq).to k h2 h3
    · simp at hq
      subst hq
      exact hu.to k h2 h3

def cells2 (ds : List (Nat × Nat)) : List Value := ds.flatMap fun d => [.int .i64 (d.1 : Int), .int .i64 (d.2 : Int)]
theorem cells2_app (a b : List (Nat × Nat)) : cells2 (a ++ b) = cells2 a ++ cells2 b := by simp [cells2]
theorem cells2_get (qs : List (Nat × Nat)) : ∀ k q, qs[k]? = some q → (cells2 qs)[k * 2]? = some (.int .i64 (q.1 : Int)) ∧ (cells2 qs)[k * 2 + 1]? = some (.int .i64 (q.2 : Int)) := by
  induction qs with
  | nil => intro k q h; simp at h
  | cons q0 r ih =>
    intro k q h
    show ([Value.int .i64 (q0.1 : Int), .int .i64 (q0.2 : Int)] ++ cells2 r)[k * 2]? = _ ∧ ([Value.int .i64 (q0.1 : Int), .int .i64 (q0.2 : Int)] ++ cells2 r)[k * 2 + 1]? = _
    cases k with
    | zero =>
      simp at h
      subst h
      simp
    | succ k =>
      have := ih k q (by simpa using h)
      rw [show (k + 1) * 2 = k * 2 + 2 by omega, show k * 2 + 2 + 1 = k * 2 + 1 + 2 by omega]
      simpa using this
/-- a row of defects -/
def DRow (w : World) (base : Nat) (T : TypeId) (v : Value) (ds : List (Nat × Nat)) : Prop := w.ownsRow base T 2 v ds.length (cells2 ds)
theorem DRow.snoc {w' : World} {base : Nat} {T : TypeId} {v' : Value} {ds : List (Nat × Nat)} {d : Nat × Nat} (ho' : w'.ownsRow base T 2 v' (ds.length + 1) (cells2 ds ++ [.int .i64 (d.1 : Int), .int .i64 (d.2 : Int)])) : DRow w' base T v' (ds ++ [d]) := by
  unfold DRow
  rw [cells2_app, List.length_append]
  simpa [cells2] using ho'
theorem DRow.to {w w' : World} {base : Nat} {T : TypeId} {v : Value} {ds : List (Nat × Nat)} {S : Nat → Prop} (h : DRow w base T v ds) (k : Touch w w' S) (h1 : ∀ i, v.ownBlock = some i → ¬ S i) : DRow w' base T v ds := own_kept h k h1

/-- append of one element onto a row of the call's own -/
theorem wpl_row {w : World} {ops : Array Oper} {rest : List Oper} {o : Oper} {a : Act} {Q : Exit → Act → World → Prop} (hgd : o.guard = none) (s x : Operand) (SL T : TypeId)
    (ho : o.op = .call { callee := .builtin .append, args := #[s, x], argTypes := #[SL, SL] })
    (base size bytes : Nat) (z : Value) (hinfo : (Tryd.prog.info? T).map (fun i => (i.zero, i.size, i.bytes)) = some (some z, size, bytes)) (ht : Tryd.prog.underlying SL = some (.slice T))
    (hzs : z.cells.size = size) (hsz : 0 < size) (hbt : bytes ≤ 64) (v : Value) (n : Nat) (xs : List Value) (hs : a.eval s = v) (hown : w.ownsRow base T size v n xs)
    (g : Nat) (news : List Value) (hx : a.eval x = .slice (some ⟨g, 0, none⟩) 1 1) (hnews : ∀ j u, news[j]? = some u → w.cell? ⟨g, j, none⟩ = some u) (hl : news.length = size) (h1 : ∀ u ∈ news, u.oneCell' = true)
    (hn : n ≤ 100000000000) (hbase : base ≤ w.heap.size)
    (h : ∀ v' w', w'.ownsRow base T size v' (n + 1) (xs ++ news) → Touch w w' (fun k => base ≤ k ∧ v.ownBlock = some k) → wpList Tryd.prog ops Q rest (a.put o.dst v') w') :
    wpList Tryd.prog ops Q (o :: rest) a w := by
  obtain ⟨i0, hi, hz0, hz1, hz2⟩ := info_parts hinfo
  have hb2 : (n + 1) * bytes ≤ 140737488355328 := by
    have : (n + 1) * bytes ≤ 100000000001 * 64 := Nat.mul_le_mul (by omega) hbt
    omega
  refine wpList_append_own_at w hgd s x SL ho base T i0 z size bytes ht hi hz0 hz1 hz2 hzs hsz v n xs hs hown ⟨g, 0, none⟩ 1 1 news hx (by omega) (fun j u hj => by rw [add_at, Nat.zero_add]; exact hnews j u hj) h1 (by unfold maxLen; omega) hb2 hbase ?_
  intro v' w' h2 h3 _ _
  exact h v' w' h2 (Touch.grown h3 (fun k hk => .inl ⟨(hown.lt k hk).1, hk⟩))
theorem news_of {w : World} {g : Nat} {t : TypeId} {news : List Value} (h : Cel w g t news.toArray) : ∀ j u, news[j]? = some u → w.cell? ⟨g, j, none⟩ = some u := by
  intro j u hj
  rw [h.cell j]
  simpa using hj
end Go.Proofs.YtpkjogjdacogeaaDoor
