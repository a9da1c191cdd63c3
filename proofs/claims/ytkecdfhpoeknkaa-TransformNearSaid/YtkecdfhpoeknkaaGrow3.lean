/- The law of such a region: whatever order is picked. Imports nothing of the program. -/
import Derived.Test.YtkecdfhpoeknkaaGrow2
namespace Go.Proofs.Ytkecdfhpoeknkaa
set_option linter.unusedVariables false
set_option linter.unusedSimpArgs false
open Go.RowKit

section
variable {P : Program} {W : World} {l : List Oper} {n : Nat} {T : TypeId} {Z : Array Value} {md : Region.Mode}

/-- how things stand while the head comes up; 'af' is the frame behind it -/
structure Stand (W : World) (l : List Oper) (n : Nat) (T : TypeId) (Z : Array Value) (f0 : Nat → Value) (af : Act) (listed : Array Bool) (f : Nat → Value) (w : World) : Prop where
  size : listed.size = l.length
  rest : ∀ t, n ≤ t → t < l.length → listed.getD t true = false
  below : Below W.heap.size W w
  old : ∀ i o, i < n → l[i]? = some o → isMade o = false → f i = f0 i
  made : ∀ i o p, i < n → l[i]? = some o → isMade o = true → o.dst = some p → listed.getD i false = true → ∃ B, f i = ptr B ∧ W.heap.size ≤ B ∧
    ((∀ s o' q, s < n → l[s]? = some o' → keptAt o' = some (p, q) → listed.getD s false = false) → w.heap[B]? = some (.cells Z T (0, 0))) ∧
    (∀ s o' q, s < n → l[s]? = some o' → keptAt o' = some (p, q) → listed.getD s false = true → w.heap[B]? = some (.cells (af.tmps.getD q undef).cells T (0, 0)))
  apart : ∀ i j o o', i < n → j < n → l[i]? = some o → l[j]? = some o' → isMade o = true → isMade o' = true → listed.getD i false = true → listed.getD j false = true → i ≠ j → f i ≠ f j

theorem below_here {w w' : World} (h : Below W.heap.size W w) (k : Below w.heap.size w w') : Below W.heap.size W w' := h.trans (k.mono h.size)

theorem Stand.there {f0 : Nat → Value} {af : Act} {listed : Array Bool} {f : Nat → Value} {w : World} (h : Stand W l n T Z f0 af listed f w) (i : Nat) (o : Oper) (p : Tmp) (hi : i < n) (ho : l[i]? = some o) (hm : isMade o = true) (hp : o.dst = some p) (hl : listed.getD i false = true)
    (H : HeadOk md l n T) : ∃ B, f i = ptr B ∧ B < w.heap.size := by
  obtain ⟨B, h1, h2, h3, h4⟩ := h.made i o p hi ho hm hp hl
  refine ⟨B, h1, ?_⟩
  by_cases hc : ∃ s o' q, s < n ∧ l[s]? = some o' ∧ keptAt o' = some (p, q) ∧ listed.getD s false = true
  · obtain ⟨s, o', q, a1, a2, a3, a4⟩ := hc
    exact (Array.getElem?_eq_some_iff.1 (h4 s o' q a1 a2 a3 a4)).1
  · exact (Array.getElem?_eq_some_iff.1 (h3 (fun s o' q a1 a2 a3 => by
      by_cases a4 : listed.getD s false = true
      · exact absurd ⟨s, o', q, a1, a2, a3, a4⟩ hc
      · simpa using a4))).1

theorem Stand.next (H : HeadOk md l n T) {f0 : Nat → Value} {af : Act} {listed : Array Bool} {f : Nat → Value} {w w' : World} (h : Stand W l n T Z f0 af listed f w) (k : Below w.heap.size w w') (i : Nat) (o : Oper) (hi : i < n) (ho : l[i]? = some o) (hm : isMade o = false) (hk : keptAt o = none) : Stand W l n T Z f0 af (listed.setIfInBounds i true) f w' := by
  have hother : ∀ j o', l[j]? = some o' → (isMade o' = true ∨ (keptAt o').isSome = true) → (listed.setIfInBounds i true).getD j false = listed.getD j false := by
    intro j o' hj hm'
    by_cases e : i = j
    · subst e; rw [ho] at hj; injection hj with hj; subst hj; rcases hm' with hm' | hm'
      · rw [hm] at hm'; cases hm'
      · rw [hk] at hm'; cases hm'
    · exact getD_set_ne false e
  refine ⟨by simpa using h.size, fun t h1 h2 => by rw [getD_set_ne true (by omega)]; exact h.rest t h1 h2, below_here h.below k, h.old, ?_, ?_⟩
  · intro j o' p hj hoj hmj hp hl
    rw [hother j o' hoj (.inl hmj)] at hl
    obtain ⟨B0, e0, hB0⟩ := h.there j o' p hj hoj hmj hp hl H
    obtain ⟨B, h1, h2, h3, h4⟩ := h.made j o' p hj hoj hmj hp hl
    have hB : B < w.heap.size := by rw [h1] at e0; simp [ptr] at e0; omega
    refine ⟨B, h1, h2, fun hc => (k.block B hB).trans (h3 (fun s o2 q a1 a2 a3 => ?_)), fun s o2 q a1 a2 a3 a4 => (k.block B hB).trans (h4 s o2 q a1 a2 a3 ?_)⟩
    · have := hc s o2 q a1 a2 a3
      rwa [hother s o2 a2 (.inr (by rw [a3]; rfl))] at this
    · rwa [hother s o2 a2 (.inr (by rw [a3]; rfl))] at a4
  · intro i' j' o1 o2 h1 h2 h3 h4 h5 h6 h7 h8 h9
    rw [hother _ _ h3 (.inl h5)] at h7
    rw [hother _ _ h4 (.inl h6)] at h8
    exact h.apart i' j' o1 o2 h1 h2 h3 h4 h5 h6 h7 h8 h9

theorem Stand.make (H : HeadOk md l n T) {f0 : Nat → Value} {af : Act} {listed : Array Bool} {f : Nat → Value} {w : World} (h : Stand W l n T Z f0 af listed f w) (i : Nat) (o : Oper) (hi : i < n) (ho : l[i]? = some o) (hm : isMade o = true) (hun : listed.getD i false = false)
    (hs : ∀ s o' q p, s < n → l[s]? = some o' → keptAt o' = some (p, q) → o.dst = some p → listed.getD s false = false) :
    Stand W l n T Z f0 af (listed.setIfInBounds i true) (fun m => if m = i then ptr w.heap.size else f m) (w.alloc (.cells Z T)) := by
  have hother : ∀ j, j ≠ i → (listed.setIfInBounds i true).getD j false = listed.getD j false := fun j e => getD_set_ne false (Ne.symm e)
  have hkept : ∀ s o' p q, l[s]? = some o' → keptAt o' = some (p, q) → s ≠ i := by
    intro s o' p q h1 h2 e
    subst e
    rw [ho] at h1; injection h1 with h1; subst h1
    unfold isMade at hm
    unfold keptAt at h2
    split at h2
    · rename_i hop; rw [hop] at hm; cases hm
    · cases h2
  have hold : ∀ j o', j < n → l[j]? = some o' → isMade o' = true → listed.getD j false = true → f j ≠ ptr w.heap.size := by
    intro j o' hj hoj hmj hl e
    obtain ⟨_, _, p, hp⟩ := H.made j o' hj hoj hmj
    obtain ⟨B, h1, h2⟩ := h.there j o' p hj hoj hmj hp hl H
    rw [h1] at e
    simp [ptr] at e
    omega
  refine ⟨by simpa using h.size, fun t h1 h2 => by rw [getD_set_ne true (by omega)]; exact h.rest t h1 h2, h.below.alloc h.below.size _, ?_, ?_, ?_⟩
  · intro j o' hj hoj hmj
    have e : j ≠ i := by intro e; subst e; rw [ho] at hoj; injection hoj with hoj; subst hoj; rw [hm] at hmj; cases hmj
    simp only [if_neg e]
    exact h.old j o' hj hoj hmj
  · intro j o' p hj hoj hmj hp hl
    by_cases e : j = i
    · subst e
      rw [ho] at hoj; injection hoj with hoj; subst hoj
      simp only [if_true]
      refine ⟨w.heap.size, rfl, h.below.size, fun _ => heap_alloc_new w _, fun s o2 q a1 a2 a3 a4 => ?_⟩
      rw [hother s (hkept s o2 p q a2 a3), hs s o2 q p a1 a2 a3 hp] at a4
      cases a4
    · simp only [if_neg e]
      rw [hother j e] at hl
      obtain ⟨B0, e0, hB0⟩ := h.there j o' p hj hoj hmj hp hl H
      obtain ⟨B, h1, h2, h3, h4⟩ := h.made j o' p hj hoj hmj hp hl
      have hB : B < w.heap.size := by rw [h1] at e0; simp [ptr] at e0; omega
      refine ⟨B, h1, h2, fun hc => (Below.heap_alloc w _ B hB).trans (h3 (fun s o2 q a1 a2 a3 => ?_)), fun s o2 q a1 a2 a3 a4 => (Below.heap_alloc w _ B hB).trans (h4 s o2 q a1 a2 a3 ?_)⟩
      · have := hc s o2 q a1 a2 a3
        rwa [hother s (hkept s o2 p q a2 a3)] at this
      · rwa [hother s (hkept s o2 p q a2 a3)] at a4
  · intro i' j' o1 o2 h1 h2 h3 h4 h5 h6 h7 h8 h9
    by_cases e1 : i' = i
    · have e2 : j' ≠ i := fun e => h9 (e1.trans e.symm)
      simp only [if_pos e1, if_neg e2]
      rw [hother j' e2] at h8
      exact fun e => hold j' o2 h2 h4 h6 h8 e.symm
    · rw [hother i' e1] at h7
      by_cases e2 : j' = i
      · simp only [if_neg e1, if_pos e2]
        exact hold i' o1 h1 h3 h5 h7
      · simp only [if_neg e1, if_neg e2]
        rw [hother j' e2] at h8
        exact h.apart i' j' o1 o2 h1 h2 h3 h4 h5 h6 h7 h8 h9

theorem Stand.keep (H : HeadOk md l n T) {f0 : Nat → Value} {af : Act} {listed : Array Bool} {f : Nat → Value} {w w' : World} (h : Stand W l n T Z f0 af listed f w) (i : Nat) (o : Oper) (p q : Tmp) (hi : i < n) (ho : l[i]? = some o) (hk : keptAt o = some (p, q))
    (j : Nat) (oj : Oper) (hj : j < n) (hoj : l[j]? = some oj) (hmj : isMade oj = true) (hp : oj.dst = some p) (hlj : listed.getD j false = true) (B : Nat) (hB : f j = ptr B)
    (hg : w.grownBy w' (some B)) (hn : w'.heap[B]? = some (.cells (af.tmps.getD q undef).cells T (0, 0))) : Stand W l n T Z f0 af (listed.setIfInBounds i true) f w' := by
  have hbel : Below W.heap.size W w' := by
    obtain ⟨B', h1, h2, _⟩ := h.made j oj p hj hoj hmj hp hlj
    have e : B' = B := by rw [h1] at hB; simp [ptr] at hB; exact hB
    exact h.below.grown hg h.below.size (fun k hk => by injection hk with hk; omega)
  have hother : ∀ k, k ≠ i → (listed.setIfInBounds i true).getD k false = listed.getD k false := fun k e => getD_set_ne false (Ne.symm e)
  have hni : ∀ k o', l[k]? = some o' → isMade o' = true → k ≠ i := by
    intro k o' h1 h2 e
    subst e
    rw [ho] at h1; injection h1 with h1; subst h1
    unfold isMade at h2
    unfold keptAt at hk
    split at hk
    · rename_i hop; rw [hop] at h2; cases h2
    · cases hk
  have hsz : i < listed.size := by rw [h.size]; exact Nat.lt_of_lt_of_le hi H.le
  refine ⟨by simpa using h.size, fun t h1 h2 => by rw [getD_set_ne true (by omega)]; exact h.rest t h1 h2, hbel, h.old, ?_, ?_⟩
  · intro k o' p' hkn hok hmk hp' hl
    rw [hother k (hni k o' hok hmk)] at hl
    obtain ⟨B0, e0, hB0⟩ := h.there k o' p' hkn hok hmk hp' hl H
    obtain ⟨B', h1, h2, h3, h4⟩ := h.made k o' p' hkn hok hmk hp' hl
    have hB' : B' < w.heap.size := by rw [h1] at e0; simp [ptr] at e0; omega
    by_cases e : k = j
    · subst e
      rw [hoj] at hok; injection hok with hok; subst hok
      have ep : p' = p := by rw [hp] at hp'; injection hp' with hp'; exact hp'.symm
      subst ep
      have eB : B' = B := by rw [h1] at hB; simp [ptr] at hB; exact hB
      subst eB
      refine ⟨B', h1, h2, fun hc => ?_, fun s o2 q2 a1 a2 a3 a4 => ?_⟩
      · have := hc i o q hi ho hk
        simp [hsz] at this
      · by_cases es : s = i
        · subst es
          rw [ho] at a2; injection a2 with a2; subst a2
          rw [hk] at a3; injection a3 with a3; injection a3 with _ a3
          rw [← a3]; exact hn
        · exact absurd rfl ((H.kept i o p' q hi ho hk).2.2.2.2 s o2 p' q2 a1 a2 es a3)
    · have hne : B' ≠ B := fun eB => h.apart k j o' oj hkn hj hok hoj hmk hmj hl hlj e (by rw [h1, hB, eB])
      have hsame : w'.heap[B']? = w.heap[B']? := hg.block B' hB' (fun e => hne (by injection e))
      have hpp : p' ≠ p := fun ep => by
        subst ep
        exact H.dsts k o' hkn hok j oj hj hoj (Ne.symm e) p' hp' hp
      have hsi : ∀ s o2 q2, l[s]? = some o2 → keptAt o2 = some (p', q2) → s ≠ i := fun s o2 q2 a2 a3 es => by
        subst es
        rw [ho] at a2; injection a2 with a2; subst a2
        rw [hk] at a3; injection a3 with a3; injection a3 with a3 _
        exact hpp a3.symm
      refine ⟨B', h1, h2, fun hc => hsame.trans (h3 (fun s o2 q2 a1 a2 a3 => ?_)), fun s o2 q2 a1 a2 a3 a4 => hsame.trans (h4 s o2 q2 a1 a2 a3 ?_)⟩
      · have := hc s o2 q2 a1 a2 a3
        rwa [hother s (hsi s o2 q2 a2 a3)] at this
      · rwa [hother s (hsi s o2 q2 a2 a3)] at a4
  · intro i' j' o1 o2 h1 h2 h3 h4 h5 h6 h7 h8 h9
    rw [hother i' (hni i' o1 h3 h5)] at h7
    rw [hother j' (hni j' o2 h4 h6)] at h8
    exact h.apart i' j' o1 o2 h1 h2 h3 h4 h5 h6 h7 h8 h9

/-- an operation of the head looks at the same values in whatever order -/
theorem looks_same (H : HeadOk md l n T) {f0 f : Nat → Value} {af : Act} {listed : Array Bool} {w : World} (S : Stand W l n T Z f0 af listed f w) (a0 : Act) (i : Nat) (o : Oper) (hi : i < n) (ho : l[i]? = some o) (hkn : keptAt o = none) (hr : i ∈ Region.ready md l.toArray listed) :
    ∀ d ∈ o.looksAt l.toArray, (maskL (fun m => listed.getD m false) f 0 (l.take n) a0).tmps.getD d undef = (maskL (fun m => decide (m < i)) f0 0 (l.take n) a0).tmps.getD d undef := by
  intro d hd
  refine maskL_slot d (l.take n) 0 a0 a0 rfl rfl ?_
  intro j oj hj hdst
  have hjn : j < n := by
    rcases Nat.lt_or_ge j n with h | h
    · exact h
    · rw [List.getElem?_eq_none (by simp; omega)] at hj; cases hj
  have hjl : l[j]? = some oj := by rwa [List.getElem?_take, if_pos hjn] at hj
  obtain ⟨_, hw, hm⟩ := H.looks i o hi ho hkn d hd j oj hjl hdst
  obtain ⟨oi, hoi, e, he, hb, hon⟩ := Region.waitsFor_spec hw
  obtain ⟨_, o2, ho2, hall⟩ := mem_ready.1 hr
  have e1 : oi = o := by have : l[i]? = some oi := by simpa using hoi
                         rw [ho] at this; injection this with this; exact this.symm
  have e2 : o2 = o := by have : l[i]? = some o2 := by simpa using ho2
                         rw [ho] at this; injection this with this; exact this.symm
  subst e1
  have h1 := hall e (by rw [e2]; exact he) hb
  rw [hon] at h1
  have h2 := H.down i oi hi ho e he hb
  rw [hon] at h2
  simp only [Nat.zero_add]
  exact ⟨by rw [h1]; simp [h2], S.old j oj hjn hjl hm⟩

theorem eval_same {a b : Act} {ops : Array Oper} (o : Oper) (hs : ∀ cs b, o.op ≠ .select cs b) (h : ∀ d ∈ o.looksAt ops, a.tmps.getD d undef = b.tmps.getD d undef) : execOp a.eval o = execOp b.eval o := by
  refine execOp_congr o hs fun x hx => ?_
  cases x with
  | tmp t => exact h t (List.mem_append_left _ (List.mem_filterMap.2 ⟨.tmp t, by simpa using hx, rfl⟩))
  | const v => rfl
  | global g => rfl
  | func g => rfl
theorem wanted_same {a b : Act} {ops : Array Oper} (o : Oper) (hs : a.tmps.size = b.tmps.size) (h : ∀ d ∈ o.looksAt ops, a.tmps.getD d undef = b.tmps.getD d undef) : Region.wanted o (yielded ops a.tmps) = Region.wanted o (yielded ops b.tmps) := by
  unfold Region.wanted
  cases hg : o.guard with
  | none => rfl
  | some gw =>
    obtain ⟨g, want⟩ := gw
    have : yielded ops a.tmps g = yielded ops b.tmps g := by
      unfold yielded
      cases hd : (ops[g]?).bind (·.dst) with
      | none => rfl
      | some d =>
        have hm : d ∈ o.looksAt ops := List.mem_append_right _ (by rw [hg]; simp [hd])
        have e := h d hm
        have : a.tmps[d]? = b.tmps[d]? := by
          by_cases hlt : d < a.tmps.size
          · have hlb : d < b.tmps.size := by rw [← hs]; exact hlt
            have e1 : a.tmps.getD d undef = a.tmps[d] := by simp [hlt]
            have e2 : b.tmps.getD d undef = b.tmps[d] := by simp [hlb]
            rw [Array.getElem?_eq_getElem hlt, Array.getElem?_eq_getElem hlb, ← e1, ← e2, e]
          · have hlb : ¬ d < b.tmps.size := by rw [← hs]; exact hlt
            rw [Array.getElem?_eq_none (Nat.le_of_not_lt hlt), Array.getElem?_eq_none (Nat.le_of_not_lt hlb)]
        simp only [Option.bind_some, this]
    simp only [this]

theorem wpAny_grow (H : HeadOk md l n T) (Q : Exit → Act → World → Prop) (a0 : Act) (f0 : Nat → Value) (Fit : Value → Prop)
    (hstore : ∀ (i : Nat) (o : Oper) (a : Act) (w : World) (p q : Tmp) (B : Nat), i < n → l[i]? = some o → keptAt o = some (p, q) → a.tmps.getD p undef = ptr B → w.heap[B]? = some (.cells Z T (0, 0)) → Fit (a.tmps.getD q undef) →
      ∃ w', (execOp a.eval o).run P w = .ok .skip w' ∧ w.grownBy w' (some B) ∧ w'.heap[B]? = some (.cells (a.tmps.getD q undef).cells T (0, 0)))
    (hfit : ∀ i o p q, i < n → l[i]? = some o → keptAt o = some (p, q) → Fit ((maskL (fun _ => true) f0 0 (l.take n) a0).tmps.getD q undef))
    (hsz : ∀ i o p, i < n → l[i]? = some o → isMade o = true → o.dst = some p → p < a0.tmps.size)
    (hrun : ∀ (o : Oper) (a : Act) (w : World), o.op = .alloc T → (execOp a.eval o).run P w = .ok (.value (ptr w.heap.size)) (w.alloc (.cells Z T)))
    (hshown : ∀ i o, i < n → l[i]? = some o → (isMade o || (keptAt o).isSome) = false → Shown P W l.toArray f0 o i (maskL (fun m => decide (m < i)) f0 0 (l.take n) a0))
    (hfin : ∀ f w listed, Stand W l n T Z f0 (maskL (fun _ => true) f0 0 (l.take n) a0) listed f w → (∀ i, i < n → listed.getD i false = true) → wpAny P md l.toArray Q (l.length - n) listed (maskL (fun _ => true) f 0 (l.take n) a0) w) :
    ∀ (c : Nat) (listed : Array Bool) (f : Nat → Value) (w : World), unl listed n ≤ c → (∀ s, s < n → listed.getD s false = true → ∀ o, l[s]? = some o → ∀ j, Region.waitsFor md l.toArray s j = true → listed.getD j false = true) → Stand W l n T Z f0 (maskL (fun _ => true) f0 0 (l.take n) a0) listed f w →
      wpAny P md l.toArray Q (c + (l.length - n)) listed (maskL (fun m => listed.getD m false) f 0 (l.take n) a0) w := by
  have hall : ∀ (c : Nat) (listed : Array Bool) (f : Nat → Value) (w : World), (∀ i, i < n → listed.getD i false = true) → Stand W l n T Z f0 (maskL (fun _ => true) f0 0 (l.take n) a0) listed f w →
      wpAny P md l.toArray Q (c + (l.length - n)) listed (maskL (fun m => listed.getD m false) f 0 (l.take n) a0) w := by
    intro c listed f w ha S
    have e : maskL (fun m => listed.getD m false) f 0 (l.take n) a0 = maskL (fun _ => true) f 0 (l.take n) a0 :=
      maskL_congr _ _ _ (fun j hj => by
        simp only [Nat.zero_add]
        exact ⟨ha j (by simp at hj; omega), fun _ => by trivial⟩)
    rw [e]
    exact wpAny_plus c (hfin f w listed S ha)
  intro c
  induction c with
  | zero =>
    intro listed f w hc _ S
    exact hall 0 listed f w (unl_zero listed n (by omega)) S
  | succ c ih =>
    intro listed f w hc hdone S
    by_cases ha : ∀ i, i < n → listed.getD i false = true
    · exact hall (c + 1) listed f w ha S
    · rw [show c + 1 + (l.length - n) = c + (l.length - n) + 1 by omega]
      refine ⟨fun hr => absurd ?_ ha, fun i hr => ?_⟩
      · -- the least that has not come up may come up
        intro i
        induction i using Nat.strongRecOn with
        | ind i ihi =>
          intro hi
          by_cases h1 : listed.getD i false = true
          · exact h1
          · exfalso
            have hil : i < l.length := Nat.lt_of_lt_of_le hi H.le
            have ho : l[i]? = some l[i] := List.getElem?_eq_getElem hil
            have : i ∈ Region.ready md l.toArray listed := by
              refine mem_ready.2 ⟨getD_in (by rw [S.size]; exact hil) (by simpa using h1), l[i], by simp [hil], ?_⟩
              intro e he hb
              have := H.down i _ hi ho e he hb
              exact ihi e.on this (by omega)
            rw [hr] at this
            cases this
      · obtain ⟨hun, o, ho, hdeps⟩ := mem_ready.1 hr
        have ho' : l[i]? = some o := by simpa using ho
        have hil : i < l.length := (List.getElem?_eq_some_iff.1 ho').1
        have hi : i < n := by
          rcases Nat.lt_or_ge i n with h | h
          · exact h
          · exfalso
            refine ha (fun j hj => ?_)
            obtain ⟨oi, hoi, e, he, hb, hon⟩ := Region.waitsFor_spec (H.tail i h hil j hj)
            rw [ho] at hoi
            injection hoi with hoi
            subst hoi
            rw [← hon]
            exact hdeps e he hb
        have hlf : listed.getD i false = false := getD_both hun
        have hszl : i < listed.size := by rw [S.size]; exact hil
        have hc' : unl (listed.setIfInBounds i true) n ≤ c := by
          have := unl_set listed i hszl hlf n
          rw [if_pos hi] at this
          omega
        have htake : (l.take n)[i]? = some o := by rw [List.getElem?_take, if_pos hi]; exact ho'
        have hnew : (fun m => m == 0 + i || listed.getD m false) = (fun m => (listed.setIfInBounds i true).getD m false) := by
          funext m
          by_cases e : m = i
          · subst e; simp [hszl]
          · have e' : (m == 0 + i) = false := by simp; omega
            rw [e', Bool.false_or, getD_set_ne false (Ne.symm e)]
        have hd : ∀ j o', (l.take n)[j]? = some o' → j ≠ i → ∀ d, o.dst = some d → o'.dst ≠ some d := by
          intro j o' hj hne d hd
          have hjn : j < n := by
            rcases Nat.lt_or_ge j n with h | h
            · exact h
            · rw [List.getElem?_eq_none (by simp; omega)] at hj; cases hj
          have hjl : l[j]? = some o' := by rwa [List.getElem?_take, if_pos hjn] at hj
          exact H.dsts i o hi ho' j o' hjn hjl hne d hd
        have hput : ∀ g : Nat → Value, (maskL (fun m => listed.getD m false) g 0 (l.take n) a0).put o.dst (g i) = maskL (fun m => (listed.setIfInBounds i true).getD m false) g 0 (l.take n) a0 := by
          intro g
          have := maskL_next (ls := fun m => listed.getD m false) (f := g) (l.take n) 0 i a0 o htake (by simpa using hlf) hd
          rw [hnew] at this
          simpa using this
        have hdone' : ∀ s, s < n → (listed.setIfInBounds i true).getD s false = true → ∀ o, l[s]? = some o → ∀ j, Region.waitsFor md l.toArray s j = true → (listed.setIfInBounds i true).getD j false = true := by
          intro s hs hl o2 ho2 j hw
          by_cases e : s = i
          · subst e
            obtain ⟨oi, hoi, e, he, hb, hon⟩ := Region.waitsFor_spec hw
            rw [ho] at hoi; injection hoi with hoi; subst hoi
            have := hdeps e he hb
            rw [hon] at this
            exact getD_set_true this
          · rw [getD_set_ne false (Ne.symm e)] at hl
            exact getD_set_true (hdone s hs hl o2 ho2 j hw)
        unfold wpOp
        simp only [ho]
        by_cases hm : isMade o = true
        · obtain ⟨hop, hgd, _⟩ := H.made i o hi ho' hm
          have hw : Region.wanted o (yielded l.toArray (maskL (fun m => listed.getD m false) f 0 (l.take n) a0).tmps) = true := by simp [Region.wanted, hgd]
          rw [if_pos hw]
          left
          unfold Oper.wp
          rw [hrun o _ w hop]
          show wpAny P md l.toArray Q _ _ ((maskL (fun m => listed.getD m false) f 0 (l.take n) a0).put o.dst (ptr w.heap.size)) _
          have e : maskL (fun m => listed.getD m false) f 0 (l.take n) a0 = maskL (fun m => listed.getD m false) (fun m => if m = i then ptr w.heap.size else f m) 0 (l.take n) a0 :=
            maskL_congr _ _ _ (fun j _ => by
              simp only [Nat.zero_add]
              refine ⟨by trivial, fun hj => by
                have : j ≠ i := fun e => by subst e; rw [hlf] at hj; cases hj
                simp [this]⟩)
          rw [e]
          have := hput (fun m => if m = i then ptr w.heap.size else f m)
          simp only [if_true] at this
          rw [this]
          refine ih _ _ _ hc' hdone' (S.make H i o hi ho' hm hlf ?_)
          intro s o2 q p a1 a2 a3 a4
          by_cases a5 : listed.getD s false = true
          · exfalso
            obtain ⟨_, _, ⟨j, oj, hj, hoj, _, hpj, hwt⟩, _⟩ := H.kept s o2 p q a1 a2 a3
            have eji : j = i := by
              by_cases e : j = i
              · exact e
              · exact absurd hpj (H.dsts i o hi ho' j oj hj hoj e p a4)
            subst eji
            have := hdone s a1 a5 o2 a2 j hwt
            rw [hlf] at this; cases this
          · simpa using a5
        · have hm' : isMade o = false := by simpa using hm
          by_cases hkk : ∃ p q, keptAt o = some (p, q)
          · obtain ⟨p, q, hk⟩ := hkk
            obtain ⟨hgd, hdn, ⟨j, oj, hj, hoj, hmj, hpj, hwj⟩, ⟨j2, oj2, hj2, hoj2, hmj2, hqj2, hwj2⟩, huni⟩ := H.kept i o p q hi ho' hk
            have hwait : ∀ j, Region.waitsFor md l.toArray i j = true → listed.getD j false = true := by
              intro j hw
              obtain ⟨oi, hoi, e, he, hb, hon⟩ := Region.waitsFor_spec hw
              rw [ho] at hoi; injection hoi with hoi; subst hoi
              have := hdeps e he hb
              rwa [hon] at this
            have hlj := hwait j hwj
            obtain ⟨B, hB, hWB, hz, _⟩ := S.made j oj p hj hoj hmj hpj hlj
            have hcells := hz (fun s o2 q2 a1 a2 a3 => by
              by_cases es : s = i
              · subst es; exact hlf
              · exact absurd rfl (huni s o2 p q2 a1 a2 es a3))
            have hq : (maskL (fun m => listed.getD m false) f 0 (l.take n) a0).tmps.getD q undef = (maskL (fun _ => true) f0 0 (l.take n) a0).tmps.getD q undef := by
              refine maskL_slot q (l.take n) 0 a0 a0 rfl rfl ?_
              intro k ok hk' hdst
              have hkn : k < n := by
                rcases Nat.lt_or_ge k n with h | h
                · exact h
                · rw [List.getElem?_eq_none (by simp; omega)] at hk'; cases hk'
              have hkl : l[k]? = some ok := by rwa [List.getElem?_take, if_pos hkn] at hk'
              have e : k = j2 := by
                by_cases e : k = j2
                · exact e
                · exact absurd hdst (H.dsts j2 oj2 hj2 hoj2 k ok hkn hkl e q hqj2)
              subst e
              simp only [Nat.zero_add]
              rw [hoj2] at hkl; injection hkl with hkl; subst hkl
              exact ⟨hwait k hwj2, S.old k oj2 hkn hoj2 hmj2⟩
            have hp : (maskL (fun m => listed.getD m false) f 0 (l.take n) a0).tmps.getD p undef = ptr B := by
              rw [← hB]
              have htj : (l.take n)[j]? = some oj := by rw [List.getElem?_take, if_pos hj]; exact hoj
              have hx := maskL_slot (ls := fun m => listed.getD m false) (ls' := fun m => decide (m = j)) (f := f) (f' := f) p (l.take n) 0 a0 a0 rfl rfl (by
                intro k ok hk' hdst
                have hkn : k < n := by
                  rcases Nat.lt_or_ge k n with h | h
                  · exact h
                  · rw [List.getElem?_eq_none (by simp; omega)] at hk'; cases hk'
                have hkl : l[k]? = some ok := by rwa [List.getElem?_take, if_pos hkn] at hk'
                have e : k = j := by
                  by_cases e : k = j
                  · exact e
                  · exact absurd hdst (H.dsts j oj hj hoj k ok hkn hkl e p hpj)
                subst e
                simp only [Nat.zero_add]
                exact ⟨by rw [hlj]; simp, by trivial⟩)
              rw [hx]
              have hnx := maskL_next (ls := fun _ => false) (f := f) (l.take n) 0 j a0 oj htj rfl (by
                intro k o' hk' hne d hd2
                have hkn : k < n := by
                  rcases Nat.lt_or_ge k n with h | h
                  · exact h
                  · rw [List.getElem?_eq_none (by simp; omega)] at hk'; cases hk'
                have hkl : l[k]? = some o' := by rwa [List.getElem?_take, if_pos hkn] at hk'
                exact H.dsts j oj hj hoj k o' hkn hkl hne d hd2)
              have e1 : maskL (fun _ => false) f 0 (l.take n) a0 = a0 := by
                have := maskL_none (f := f) (l.take n) 0 a0
                have e : (fun m : Nat => decide (m < 0)) = (fun _ => false) := by funext m; simp
                rwa [e] at this
              have e2 : (fun m => decide (m = j)) = (fun m => m == 0 + j || (fun _ => false) m) := by funext m; by_cases h : m = j <;> simp [h]
              rw [e2, ← hnx, e1, hpj]
              have := hsz j oj p hj hoj hmj hpj
              simp [Act.put, this]
            have hw : Region.wanted o (yielded l.toArray (maskL (fun m => listed.getD m false) f 0 (l.take n) a0).tmps) = true := by simp [Region.wanted, hgd]
            rw [if_pos hw]
            left
            obtain ⟨w', hr1, hr2, hr3⟩ := hstore i o _ w p q B hi ho' hk hp hcells (by rw [hq]; exact hfit i o p q hi ho' hk)
            unfold Oper.wp
            rw [hr1]
            show wpAny P md l.toArray Q _ _ ((maskL (fun m => listed.getD m false) f 0 (l.take n) a0).put o.dst undef) _
            have e3 : (maskL (fun m => listed.getD m false) f 0 (l.take n) a0).put o.dst undef = (maskL (fun m => listed.getD m false) f 0 (l.take n) a0).put o.dst (f i) := by rw [hdn]; rfl
            rw [e3, hput f]
            rw [hq] at hr3
            exact ih _ _ _ hc' hdone' (S.keep H i o p q hi ho' hk j oj hj hoj hmj hpj hlj B hB hr2 hr3)
          have hkn : keptAt o = none := by
            cases h : keptAt o with
            | none => rfl
            | some pq => exact absurd ⟨pq.1, pq.2, h⟩ hkk
          have hboth : (isMade o || (keptAt o).isSome) = false := by rw [hm', hkn]; rfl
          have hlook := looks_same H S a0 i o hi ho' hkn hr
          have hszs : (maskL (fun m => listed.getD m false) f 0 (l.take n) a0).tmps.size = (maskL (fun m => decide (m < i)) f0 0 (l.take n) a0).tmps.size := by rw [maskL_size, maskL_size]
          have hex := eval_same o (Region.noSelect_spec H.sel i o · · ho) hlook
          have hwa := wanted_same (ops := l.toArray) o hszs hlook
          have hf := S.old i o hi ho' hm'
          rcases hshown i o hi ho' hboth with ⟨h1, h2⟩ | ⟨h1, h2⟩
          · rw [hwa, h1, if_pos rfl]
            left
            have h3 := h2 w S.below
            unfold growAt at h3
            unfold Oper.wp
            rw [hex]
            generalize (execOp (maskL (fun m => decide (m < i)) f0 0 (l.take n) a0).eval o).run P w = r at h3
            cases r with
            | ok nx w' =>
              cases nx <;> simp only [growUpon] at h3 <;> simp only [Oper.upon]
              case value u =>
                obtain ⟨e1, e2⟩ := h3
                rw [e1, e2, ← hf, hput f]
                exact ih _ _ _ hc' hdone' (S.next H (Below.refl _ _) i o hi ho' hm' hkn)
              case skip =>
                obtain ⟨e1, e2⟩ := h3
                rw [e1, ← e2, ← hf, hput f]
                exact ih _ _ _ hc' hdone' (S.next H (Below.refl _ _) i o hi ho' hm' hkn)
              case enter g args =>
                obtain ⟨e1, hcall⟩ := h3
                rw [e1]
                exact hcall.mono fun e w'' ⟨he, hb⟩ => by
                  subst he
                  show wpAny P md l.toArray Q _ _ ((maskL (fun m => listed.getD m false) f 0 (l.take n) a0).put o.dst (f0 i)) _
                  rw [← hf, hput f]
                  exact ih _ _ _ hc' hdone' (S.next H hb i o hi ho' hm' hkn)
            | halt x w' => simp only [growUpon] at h3
          · rw [hwa, h1]
            simp only [Bool.false_eq_true, if_false]
            rw [← h2, ← hf, hput f]
            exact ih _ _ _ hc' hdone' (S.next H (Below.refl _ _) i o hi ho' hm' hkn)
end
end Go.Proofs.Ytkecdfhpoeknkaa
