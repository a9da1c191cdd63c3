/- For the laws: one element of a row; same, in a region that draws its order; bytes of joined units. -/
import Derived.Test.YtpkjogjdacogeaaDoorStJ
import Derived.Lib.QuietBelow
import Derived.BigQuiet
namespace Go.Proofs.YtpkjogjdacogeaaDoor
open Go.RowKit Go.Sort
set_option linter.unusedVariables false
set_option linter.unusedSimpArgs false

theorem FRow.at_ {w : World} {base n c : Nat} {T : TypeId} {A : Option Addr} {us : List SM.Hit} (h : FRow w base T (.slice A n c) us) (k : Nat) (hk : k < us.length) :
    ∃ g hh u, A = some ⟨g, 0, none⟩ ∧ n = us.length ∧ base ≤ g ∧ g < w.heap.size ∧ us[k]? = some hh ∧ w.cell? ⟨g, k * 5, none⟩ = some (.int .i64 hh.t) ∧ w.cell? ⟨g, k * 5 + 1, none⟩ = some u ∧ w.cell? ⟨g, k * 5 + 2, none⟩ = some (.int .i64 (hh.f : Int)) ∧
      w.cell? ⟨g, k * 5 + 3, none⟩ = some (.int .i64 (hh.o : Int)) ∧ w.cell? ⟨g, k * 5 + 4, none⟩ = some (.int .i64 (hh.x : Int)) ∧ Pay w base u hh.p := by
  obtain ⟨qs, e, ho, hp⟩ := h
  have hkq : k < qs.length := by rw [← e] at hk; simpa using hk
  have hq : qs[k]? = some qs[k] := List.getElem?_eq_getElem hkq
  have hu : us[k]? = some qs[k].1 := by rw [← e, List.getElem?_map, hq]; rfl
  obtain ⟨g, cap, hv, hb, hg, _, _, hcell, _⟩ := own_some ho (by omega)
  injection hv with hv hn _
  have hc : ∀ j, j < 5 → w.cell? ⟨g, k * 5 + j, none⟩ = (cell5 qs[k])[j]? := fun j hj => by rw [hcell (k * 5 + j) (by omega), cells5_get qs k _ hq j hj]
  exact ⟨g, qs[k].1, qs[k].2, hv, hn, hb, hg, hu, hc 0 (by omega), hc 1 (by omega), hc 2 (by omega), hc 3 (by omega), hc 4 (by omega), hp _ (List.getElem_mem hkq)⟩

theorem FRow.cap {w : World} {base n c : Nat} {T : TypeId} {A : Option Addr} {us : List SM.Hit} (h : FRow w base T (.slice A n c) us) (hn : 0 < us.length) : ∃ g, A = some ⟨g, 0, none⟩ ∧ us.length ≤ c := by
  obtain ⟨qs, e, ho, hp⟩ := h
  obtain ⟨g, cap, hv, hb, hg, h1, _⟩ := own_some ho hn
  injection hv with hv h2 h3
  exact ⟨g, hv, by omega⟩
namespace SM
theorem items_length : ∀ n l off, (items n l off).length ≤ l.length := by
  intro n
  induction n with
  | zero => intro l off; simp [items]
  | succ n ih =>
    intro l off
    match l with
    | [] => simp [items]
    | [_] => simp [items]
    | [_, _] => simp [items]
    | [_, _, _] => simp [items]
    | a :: b :: c :: t :: r =>
      unfold items
      have := ih (r.drop (nxL r)) (off + 4 + nxL r)
      simp at this ⊢
      omega
theorem units_length (b : List Nat) : (units b).length ≤ b.length := by
  unfold units hits its
  have h1 := items_length (b.drop (nxL b)).length (b.drop (nxL b)) (nxL b)
  have h2 := List.length_filterMap_le hitOf (items (b.drop (nxL b)).length (b.drop (nxL b)) (nxL b))
  simp at h1 h2 ⊢
  omega
end SM

namespace SM
theorem padH_le (r : List (Nat × Int × List Nat)) : padH r ≤ (flat r).length := by
  cases r with
  | nil => simp [padH]
  | cons z q => rw [flat_cons]; simp [padH]
theorem want_bound (zs : List (Nat × Int × List Nat)) : ∀ off, ∀ h ∈ want off zs, h.f ≤ off + (flat zs).length ∧ h.o ≤ off + (flat zs).length ∧ h.x ≤ off + (flat zs).length := by
  induction zs with
  | nil => intro off h hh; simp [want] at hh
  | cons z r ih =>
    intro off h hh
    have hp := padH_le r
    have hl : (flat (z :: r)).length = z.1 + (one z.2).length + (flat r).length := by rw [flat_cons]; simp; omega
    simp only [want, List.mem_cons] at hh
    rcases hh with rfl | hh
    · simp only; omega
    · have := ih _ h hh
      omega
end SM

theorem below_of {w w' : World} (h : Touch w w' (fun _ => False)) : Below w.heap.size w w' := h.below (fun i hi => hi.elim) (Nat.le_refl _)
theorem touch_of {w w' : World} (h : Below w.heap.size w w') : Touch w w' (fun _ => False) := Touch.ofBelow h (fun i h1 h2 => by omega)

/-- two that are the same, in any world of the class -/
theorem same_eq {w : World} {base base' : Nat} (hb1 : base ≤ w.heap.size) (hb2 : base' ≤ w.heap.size) (h : SM.Hit) (u u' : Value) (hs : Sl w u h.p) (hs' : Sl w u' h.p) (d : Nat) (os : Array Obj) :
    Calls Tryd.prog 9 #[.agg #[.int .i64 h.t, u, .int .i64 (h.f : Int), .int .i64 (h.o : Int), .int .i64 (h.x : Int)], .agg #[.int .i64 h.t, u', .int .i64 (h.f : Int), .int .i64 (h.o : Int), .int .i64 (h.x : Int)]] (grow (redrawn w d) os) fun e w'' => e = .returned (.bool true) ∧ ∃ p : Regrown, w'' = grow (redrawn w p.d) p.os := by
  have ht : Touch w (grow (redrawn w d) os) (fun _ => False) := touch_of (below_regrown w d os)
  refine Calls.regrown_of ((same_f _ h h u u' (hs.to ht (fun _ _ _ h => h)) (hs'.to ht (fun _ _ _ h => h))).mono ?_)
  rintro e w' ⟨b, rfl, hb, ht'⟩
  rw [hb rfl]
  exact ⟨rfl, below_of ht'⟩

namespace SM
theorem one_byte {q : Int × List Nat} (h : Fmd q) (hb : ∀ x ∈ q.2, x < 256) : ∀ x ∈ one q, x < 256 := by
  intro x hx
  have := h.2.1
  simp only [one, List.mem_cons] at hx
  rcases hx with rfl | rfl | rfl | rfl | hx
  · omega
  · omega
  · omega
  · omega
  · exact esc_byte hb x hx
theorem flat_byte {zs : List (Nat × Int × List Nat)} (h : ∀ z ∈ zs, Fmd z.2 ∧ ∀ x ∈ z.2.2, x < 256) : ∀ x ∈ flat zs, x < 256 := by
  intro x hx
  simp only [flat, List.mem_flatMap, List.mem_append] at hx
  obtain ⟨z, hz, hx⟩ := hx
  rcases hx with hx | hx
  · rw [List.eq_of_mem_replicate hx]; omega
  · exact one_byte (h z hz).1 (h z hz).2 x hx
theorem zsT_mem {us : List (Int × List Nat)} (pads : List Int) : ∀ k, k ≤ us.length → ∀ z ∈ zsT us pads k, z.2 ∈ us := by
  intro k
  induction k with
  | zero => intro _ z hz; simp [zsT] at hz
  | succ k ih =>
    intro hk z hz
    simp only [zsT, List.mem_append, List.mem_singleton] at hz
    rcases hz with hz | rfl
    · exact ih (by omega) z hz
    · simp only [List.getD, List.getElem?_eq_getElem (show k < us.length by omega), Option.getD_some]
      exact List.getElem_mem _
end SM
end Go.Proofs.YtpkjogjdacogeaaDoor
