/- What 'joined' makes: mathematics and rows. -/
import Derived.Test.YtpkjogjdacogeaaDoorStZ
namespace Go.Proofs.YtpkjogjdacogeaaDoor
open Go.RowKit
set_option linter.unusedVariables false
set_option linter.unusedSimpArgs false

namespace SM
def padAt (pads : List Int) (k : Nat) : Nat := match pads[k]? with
  | some p => if 0 < p then (p % 8).toNat else 0
  | none => 0
theorem padAt_le (pads : List Int) (k : Nat) : padAt pads k ≤ 7 := by
  unfold padAt
  split
  · split <;> omega
  · omega
/-- the first k units with their padding -/
def zsT (us : List (Int × List Nat)) (pads : List Int) : Nat → List (Nat × Int × List Nat)
  | 0 => []
  | k + 1 => zsT us pads k ++ [(padAt pads k, us.getD k (0, []))]
theorem zsT_length (us : List (Int × List Nat)) (pads : List Int) (k : Nat) : (zsT us pads k).length = k := by
  induction k with
  | zero => rfl
  | succ k ih => simp [zsT, ih]
theorem zsT_fmd {us : List (Int × List Nat)} (pads : List Int) (h : ∀ q ∈ us, Fmd q) : ∀ k, k ≤ us.length → ∀ z ∈ zsT us pads k, Fmd z.2 := by
  intro k
  induction k with
  | zero => intro _ z hz; simp [zsT] at hz
  | succ k ih =>
    intro hk z hz
    simp only [zsT, List.mem_append, List.mem_singleton] at hz
    rcases hz with hz | rfl
    · exact ih (by omega) z hz
    · refine h _ ?_
      simp only [List.getD, List.getElem?_eq_getElem (show k < us.length by omega), Option.getD_some]
      exact List.getElem_mem _
theorem zsT_zero (us : List (Int × List Nat)) : ∀ k, ∀ z ∈ zsT us [] k, z.1 = 0 := by
  intro k
  induction k with
  | zero => intro z hz; simp [zsT] at hz
  | succ k ih =>
    intro z hz
    simp only [zsT, List.mem_append, List.mem_singleton] at hz
    rcases hz with hz | rfl
    · exact ih z hz
    · rfl
theorem one_le (q : Int × List Nat) (h : Fmd q) : (one q).length ≤ 204 := by
  have h1 := length_one q
  have h2 := length_esc q.2 0
  have h3 : (esc q.2).length ≤ 2 * q.2.length := h2
  have h4 := h.1
  omega
theorem flat_le {us : List (Int × List Nat)} (pads : List Int) (h : ∀ q ∈ us, Fmd q) : ∀ k, k ≤ us.length → (flat (zsT us pads k)).length ≤ 211 * k := by
  intro k
  induction k with
  | zero => intro _; simp [zsT, flat]
  | succ k ih =>
    intro hk
    have h1 := ih (by omega)
    have h2 := one_le _ (zsT_fmd pads h (k + 1) hk (padAt pads k, us.getD k (0, [])) (by simp [zsT]))
    have h3 := padAt_le pads k
    rw [zsT, flat_app]
    simp [flat] at h1 h2 ⊢
    omega
theorem flat_step (us : List (Int × List Nat)) (pads : List Int) (k : Nat) : flat (zsT us pads (k + 1)) = (flat (zsT us pads k) ++ List.replicate (padAt pads k) 0) ++ one (us.getD k (0, [])) := by
  rw [zsT, flat_app]
  simp [flat]
theorem want0_step (us : List (Int × List Nat)) (pads : List Int) (k : Nat) : want0 0 (zsT us pads (k + 1)) = want0 0 (zsT us pads k) ++ [⟨(us.getD k (0, [])).1, (us.getD k (0, [])).2, (flat (zsT us pads k)).length + padAt pads k, (flat (zsT us pads k)).length + padAt pads k + (one (us.getD k (0, []))).length, 0⟩] := by
  rw [zsT, want0_app]
  simp [want0]

/-- the unit with what comes next -/
def fixAt (hs : List Hit) (L i : Nat) (h : Hit) : Hit := { h with x := ((hs[i + 1]?).map (·.f)).getD L }
theorem want_fix (zs : List (Nat × Int × List Nat)) : want 0 zs = (want0 0 zs).mapIdx (fixAt (want0 0 zs) (flat zs).length) := by
  apply List.ext_getElem?
  intro k
  rw [List.getElem?_mapIdx]
  rcases Nat.lt_or_ge k zs.length with hk | hk
  · obtain ⟨h, h1, h2⟩ := want_get zs 0 k hk
    rw [h1, h2, Nat.zero_add]
    rfl
  · rw [List.getElem?_eq_none (by rw [want_length]; exact hk), List.getElem?_eq_none (by rw [want0_length]; exact hk)]
    rfl
end SM

/-- the first k of them with what comes next -/
def mixed (hs : List SM.Hit) (L : Nat) (qs : List (SM.Hit × Value)) (k : Nat) : List (SM.Hit × Value) := qs.mapIdx fun i q => if i < k then (SM.fixAt hs L i q.1, q.2) else q
theorem mixed_zero (hs : List SM.Hit) (L : Nat) (qs : List (SM.Hit × Value)) : mixed hs L qs 0 = qs := by
  apply List.ext_getElem?
  intro i
  unfold mixed
  rw [List.getElem?_mapIdx]
  simp
theorem mixed_length (hs : List SM.Hit) (L : Nat) (qs : List (SM.Hit × Value)) (k : Nat) : (mixed hs L qs k).length = qs.length := by simp [mixed]
theorem mixed_get (hs : List SM.Hit) (L : Nat) (qs : List (SM.Hit × Value)) (k i : Nat) (q : SM.Hit × Value) (hq : qs[i]? = some q) : (mixed hs L qs k)[i]? = some (if i < k then (SM.fixAt hs L i q.1, q.2) else q) := by
  unfold mixed
  rw [List.getElem?_mapIdx, hq]
  rfl
theorem mixed_succ (hs : List SM.Hit) (L : Nat) (qs : List (SM.Hit × Value)) (k : Nat) (q : SM.Hit × Value) (hq : qs[k]? = some q) : mixed hs L qs (k + 1) = (mixed hs L qs k).set k (SM.fixAt hs L k q.1, q.2) := by
  apply List.ext_getElem?
  intro i
  have hk : k < qs.length := (List.getElem?_eq_some_iff.1 hq).1
  rw [List.getElem?_set, mixed_length]
  unfold mixed
  rw [List.getElem?_mapIdx, List.getElem?_mapIdx]
  by_cases hi : k = i
  · subst hi
    rw [if_pos rfl, if_pos hk, hq]
    simp
  · rw [if_neg hi]
    congr 1
    funext q
    by_cases h2 : i < k
    · rw [if_pos (by omega), if_pos h2]
    · rw [if_neg (by omega), if_neg h2]
theorem cells5_set (qs : List (SM.Hit × Value)) : ∀ k q q' x, qs[k]? = some q → cell5 q' = (cell5 q).set 4 x → cells5 (qs.set k q') = (cells5 qs).set (k * 5 + 4) x := by
  induction qs with
  | nil => intro k q q' x h; simp at h
  | cons q0 r ih =>
    intro k q q' x h hx
    have hl : (cell5 q0).length = 5 := rfl
    show _ = (cell5 q0 ++ cells5 r).set (k * 5 + 4) x
    cases k with
    | zero =>
      simp at h
      subst h
      show cell5 q' ++ cells5 r = _
      rw [hx]
      rfl
    | succ k =>
      show cell5 q0 ++ cells5 (r.set k q') = _
      rw [ih k q q' x (by simpa using h) hx, List.set_append_right _ _ (by omega), hl]
      congr 2
      omega
theorem cell5_fix (q : SM.Hit × Value) (x : Nat) : cell5 ({ q.1 with x := x }, q.2) = (cell5 q).set 4 (.int .i64 (x : Int)) := rfl

/-- v is a slice of ints that reads as zs, below block B -/
def Il (w : World) (B : Nat) (v : Value) (zs : List Int) : Prop :=
  (∀ z ∈ zs, -9223372036854775808 ≤ z ∧ z ≤ 9223372036854775807) ∧
  ((∃ A c, v = .slice A 0 c ∧ zs = []) ∨ ∃ g o cap, v = .slice (some ⟨g, o, none⟩) zs.length cap ∧ zs.length ≤ cap ∧ g < B ∧ ∀ k z, zs[k]? = some z → w.cell? ⟨g, o + k, none⟩ = some (.int .i64 z))
theorem Il.len {w : World} {B : Nat} {v : Value} {zs : List Int} (h : Il w B v zs) : ∃ A c, v = .slice A zs.length c := by
  rcases h.2 with ⟨_, _, rfl, rfl⟩ | ⟨g, o, cap, rfl, _⟩
  · exact ⟨_, _, rfl⟩
  · exact ⟨_, _, rfl⟩
theorem Il.at_ {w : World} {B n c : Nat} {A : Option Addr} {zs : List Int} (h : Il w B (.slice A n c) zs) (k : Nat) (hk : k < zs.length) : ∃ g o z, A = some ⟨g, o, none⟩ ∧ g < B ∧ zs[k]? = some z ∧ w.cell? ⟨g, o + k, none⟩ = some (.int .i64 z) ∧ -9223372036854775808 ≤ z ∧ z ≤ 9223372036854775807 := by
  have hq : zs[k]? = some zs[k] := List.getElem?_eq_getElem hk
  have hm := h.1 _ (List.getElem_mem hk)
  rcases h.2 with ⟨_, _, _, rfl⟩ | ⟨g, o, cap, hv, _, h3, h4⟩
  · simp at hk
  · injection hv with hv
    subst hv
    exact ⟨g, o, _, rfl, h3, hq, h4 k _ hq, hm.1, hm.2⟩
end Go.Proofs.YtpkjogjdacogeaaDoor
