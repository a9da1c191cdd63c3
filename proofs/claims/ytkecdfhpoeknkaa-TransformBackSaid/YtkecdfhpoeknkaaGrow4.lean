/- The law of such a region, as a walk uses it. Imports nothing of the program. -/
import Derived.Test.YtkecdfhpoeknkaaGrow3
namespace Go.Proofs.Ytkecdfhpoeknkaa
set_option linter.unusedVariables false
set_option linter.unusedSimpArgs false
open Go.RowKit Go.Sort

/-- the frame with its variables -/
def makeL (β : Nat → Nat) : Nat → List Oper → Act → Act
  | _, [], a => a
  | k, o :: l, a => makeL β (k + 1) l (if isMade o = true then a.put o.dst (ptr (β k)) else a)

theorem put_over (a : Act) (x : Option Tmp) (u v : Value) : (a.put x u).put x v = a.put x v := by
  cases x <;> simp [Act.put]

theorem makeL_mask {f f0 : Nat → Value} {β : Nat → Nat} : ∀ (l : List Oper) (k : Nat) (a : Act), (∀ i o, l[i]? = some o → isMade o = false → f (k + i) = f0 (k + i)) → (∀ i o, l[i]? = some o → isMade o = true → f (k + i) = ptr (β (k + i))) →
    (∀ (i j : Nat) (o o' : Oper), l[i]? = some o → l[j]? = some o' → i ≠ j → ∀ d, o.dst = some d → o'.dst ≠ some d) →
    maskL (fun _ => true) f k l a = makeL β k l (maskL (fun _ => true) f0 k l a)
  | [], _, _, _, _, _ => rfl
  | o :: l, k, a, h1, h2, h3 => by
    unfold maskL makeL
    simp only [if_true]
    have ih := fun a => makeL_mask (f := f) (f0 := f0) (β := β) l (k + 1) a (fun i o' ho hm => by have := h1 (i + 1) o' ho hm; rwa [show k + (i + 1) = k + 1 + i by omega] at this)
      (fun i o' ho hm => by have := h2 (i + 1) o' ho hm; rwa [show k + (i + 1) = k + 1 + i by omega] at this)
      (fun i j o1 o2 hi hj hne => h3 (i + 1) (j + 1) o1 o2 hi hj (by omega))
    by_cases hm : isMade o = true
    · rw [if_pos hm, maskL_put l (k + 1) _ o.dst _ (fun j o' ho _ d hd => h3 0 (j + 1) o o' rfl ho (by omega) d hd), put_over, ih]
      have := h2 0 o rfl hm
      simp only [Nat.add_zero] at this
      rw [this]
    · rw [if_neg hm, ih]
      have := h1 0 o rfl (by simpa using hm)
      simp only [Nat.add_zero] at this
      rw [this]

theorem below_grow {w u : World} (h : Below w.heap.size w u) : ∃ p : Regrown, u = grow (redrawn w p.d) p.os := regrown_of_below h

/-- the walk, the worlds written out -/
def lexW (P : Program) (W : World) (ops : Array Oper) (Qv : Act → Prop) : List Oper → Act → Prop
  | [], a => Qv a
  | o :: rest, a => if (isMade o || (keptAt o).isSome) = true then lexW P W ops Qv rest (a.put o.dst undef)
    else if Region.wanted o (yielded ops a.tmps) = true then ∃ v, (∀ p : Regrown, growAt P o a (grow (redrawn W p.d) p.os) v) ∧ lexW P W ops Qv rest (a.put o.dst v) else lexW P W ops Qv rest (a.put o.dst undef)
theorem lexW_G {P : Program} {W : World} {ops : Array Oper} {Qv : Act → Prop} : ∀ (l : List Oper) (a : Act), lexW P W ops Qv l a → lexG P W ops Qv l a
  | [], _, h => h
  | o :: l, a, h => by
    unfold lexW at h
    unfold lexG
    split
    · rename_i h1; rw [if_pos h1] at h; exact lexW_G l _ h
    · rename_i h1
      rw [if_neg h1] at h
      split
      · rename_i h2
        rw [if_pos h2] at h
        obtain ⟨v, hv, hr⟩ := h
        exact ⟨v, fun u hu => by obtain ⟨p, rfl⟩ := below_grow hu; exact hv p, lexW_G l _ hr⟩
      · rename_i h2
        rw [if_neg h2] at h
        exact lexW_G l _ h
theorem lexW_nil {P : Program} {W : World} {ops : Array Oper} {Qv : Act → Prop} {a : Act} (h : Qv a) : lexW P W ops Qv [] a := h
theorem lexW_step {P : Program} {W : World} {ops : Array Oper} {Qv : Act → Prop} {a : Act} {o : Oper} {rest : List Oper}
    (h : ∀ K : Act → Prop, (∀ a, lexW P W ops Qv rest a → K a) → if (isMade o || (keptAt o).isSome) = true then K (a.put o.dst undef) else if Region.wanted o (yielded ops a.tmps) = true then ∃ v, (∀ p : Regrown, growAt P o a (grow (redrawn W p.d) p.os) v) ∧ K (a.put o.dst v) else K (a.put o.dst undef)) : lexW P W ops Qv (o :: rest) a :=
  h _ (fun _ h => h)

/-- what stands behind the head: R holds -/
def BehindR (W : World) (l : List Oper) (n : Nat) (T : TypeId) (Z : Array Value) (Fit : Value → Prop) (R : Act → World → Prop) (a : Act) : Prop :=
  (∀ i o p q, i < n → l[i]? = some o → keptAt o = some (p, q) → Fit (a.tmps.getD q undef)) ∧
  (∀ i o p, i < n → l[i]? = some o → isMade o = true → o.dst = some p → p < a.tmps.size) ∧
  ∀ (β : Nat → Nat) (w : World), Below W.heap.size W w → (∀ i o p, i < n → l[i]? = some o → isMade o = true → o.dst = some p → W.heap.size ≤ β i ∧
      ((∀ s o' q, s < n → l[s]? = some o' → keptAt o' ≠ some (p, q)) → w.heap[β i]? = some (.cells Z T (0, 0))) ∧
      (∀ s o' q, s < n → l[s]? = some o' → keptAt o' = some (p, q) → w.heap[β i]? = some (.cells (a.tmps.getD q undef).cells T (0, 0)))) →
    (∀ i j o o', i < n → j < n → l[i]? = some o → l[j]? = some o' → isMade o = true → isMade o' = true → i ≠ j → β i ≠ β j) → R (makeL β 0 (l.take n) a) w
/-- the places that have come up behind the head -/
def upTo (l : List Oper) (n : Nat) : Array Bool := (List.replicate n true ++ List.replicate (l.length - n) false).toArray

/-- each store of the head is one into a variable of type T -/
def storeOf (T : TypeId) (o : Oper) : Bool := match o.op with | .store t (.tmp _) (.tmp _) => t == T | _ => true
theorem storeOf_ok {T : TypeId} {o : Oper} {p q : Tmp} (h : storeOf T o = true) (hk : keptAt o = some (p, q)) : o.op = .store T (.tmp p) (.tmp q) := by
  unfold storeOf at h
  unfold keptAt at hk
  split at hk
  · rename_i t p' q' e
    rw [e] at h
    simp only [beq_iff_eq] at h
    simp only [Option.some.injEq, Prod.mk.injEq] at hk
    rw [e, h, hk.1, hk.2]
  · cases hk
theorem grown_setRow (w : World) (g : Nat) (cs : Array Value) : w.grownBy (w.setRow g cs) (some g) :=
  ⟨rfl, rfl, rfl, by simp, fun k _ hk => by simp only [World.setRow, Array.getElem?_modify]; rw [if_neg (fun e => hk (by rw [e]))]⟩
/-- a whole value into a variable -/
theorem store_run {P : Program} {T : TypeId} (o : Oper) (a : Act) (w : World) (p q : Tmp) (B : Nat) (cs cs' : Array Value) (ho : o.op = .store T (.tmp p) (.tmp q)) (hp : a.tmps.getD p undef = ptr B) (hw : w.heap[B]? = some (.cells cs T (0, 0)))
    (hq : a.tmps.getD q undef = .agg cs') (hi : (P.info? T).map (·.size) = some cs'.size) (hs : cs.size = cs'.size) (h1 : cs'.all (·.oneCell') = true) :
    ∃ w', (execOp a.eval o).run P w = .ok .skip w' ∧ w.grownBy w' (some B) ∧ w'.heap[B]? = some (.cells (a.tmps.getD q undef).cells T (0, 0)) := by
  refine ⟨w.setRow B cs', ?_, grown_setRow w B cs', ?_⟩
  · obtain ⟨dst, op, ty, pos, after, guard⟩ := o
    simp only at ho
    subst ho
    have e1 : a.eval (.tmp p) = .pointer (some ⟨B, 0, none⟩) := hp
    have e2 : a.eval (.tmp q) = .agg cs' := hq
    simp only [execOp, e1, e2, Instr.storeAt, Instr.sureAddr, Sem.run_bind, Sem.run_pure, Result.andThen_ok, run_storeVar_row w B T T cs cs' hw hi hs h1]
  · rw [hq]
    exact setRow_heap w B cs cs' T (0, 0) hw
theorem wp_region_growR {P : Program} {id : Nat} {Q : Exit → Act → World → Prop} {a : Act} {w : World} {l : List Oper} (n : Nat) (T : TypeId) (Z : Array Value) (Fit : Value → Prop) (hm : P.follows .mixedOrders = true) (hB : headB .any l n T = true)
    (R : Act → World → Prop) (hT : ∀ a w, R a w → wpAny P .any l.toArray Q (l.length - n) (upTo l n) a w)
    (hrun : ∀ (o : Oper) (a : Act) (w : World), o.op = .alloc T → (execOp a.eval o).run P w = .ok (.value (ptr w.heap.size)) (w.alloc (.cells Z T)))
    (hk : (l.take n).all (storeOf T) = true)
    (hstore : ∀ (o : Oper) (a : Act) (w : World) (p q : Tmp) (B : Nat), o.op = .store T (.tmp p) (.tmp q) → a.tmps.getD p undef = ptr B → w.heap[B]? = some (.cells Z T (0, 0)) → Fit (a.tmps.getD q undef) →
      ∃ w', (execOp a.eval o).run P w = .ok .skip w' ∧ w.grownBy w' (some B) ∧ w'.heap[B]? = some (.cells (a.tmps.getD q undef).cells T (0, 0)))
    (h : lexW P w l.toArray (BehindR w l n T Z Fit R) (l.take n) a) : (Code.region id l.toArray true).wp P Q a w := by
  have H := headB_ok hB
  obtain ⟨f0, h1, hfit, hsz, h2⟩ := lexG_vals _ _ (lexW_G _ _ h)
  refine wp_region_any hm ?_
  have htake : ∀ i o, i < n → l[i]? = some o → (l.take n)[i]? = some o := fun i o hi ho => by rw [List.getElem?_take, if_pos hi]; exact ho
  have hback : ∀ i o, (l.take n)[i]? = some o → i < n ∧ l[i]? = some o := fun i o ho => by
    have hi : i < n := by
      rcases Nat.lt_or_ge i n with h | h
      · exact h
      · rw [List.getElem?_eq_none (by simp; omega)] at ho; cases ho
    exact ⟨hi, by rwa [List.getElem?_take, if_pos hi] at ho⟩
  have hfin : ∀ f w' listed, Stand w l n T Z f0 (maskL (fun _ => true) f0 0 (l.take n) a) listed f w' → (∀ i, i < n → listed.getD i false = true) → wpAny P .any l.toArray Q (l.length - n) listed (maskL (fun _ => true) f 0 (l.take n) a) w' := by
    intro f w' listed S ha
    have hl : listed = (List.replicate n true ++ List.replicate (l.length - n) false).toArray := by
      apply Array.ext_getElem?
      intro i
      have hle := H.le
      simp only [List.getElem?_toArray, List.getElem?_append, List.length_replicate, List.getElem?_replicate]
      by_cases hi : i < n
      · have := ha i hi
        have hs : i < listed.size := by rw [S.size]; omega
        rw [if_pos hi, if_pos hi, Array.getElem?_eq_getElem hs]
        simp [hs] at this
        rw [this]
      · rw [if_neg hi]
        by_cases hi2 : i < l.length
        · have := S.rest i (by omega) hi2
          have hs : i < listed.size := by rw [S.size]; omega
          rw [if_pos (by omega), Array.getElem?_eq_getElem hs]
          simp [hs] at this
          rw [this]
        · rw [if_neg (by omega), Array.getElem?_eq_none (by rw [S.size]; omega)]
    obtain ⟨β, hβ⟩ : ∃ β : Nat → Nat, ∀ i o, i < n → l[i]? = some o → isMade o = true → f i = ptr (β i) := by
      have : ∀ i, ∃ B, ∀ o, i < n → l[i]? = some o → isMade o = true → f i = ptr B := by
        intro i
        by_cases hc : ∃ o, i < n ∧ l[i]? = some o ∧ isMade o = true
        · obtain ⟨o, hi, ho, hmd⟩ := hc
          obtain ⟨_, _, p, hp⟩ := H.made i o hi ho hmd
          obtain ⟨B, hB, _⟩ := S.made i o p hi ho hmd hp (ha i hi)
          exact ⟨B, fun _ _ _ _ => hB⟩
        · exact ⟨0, fun o hi ho hmd => absurd ⟨o, hi, ho, hmd⟩ hc⟩
      exact ⟨fun i => (this i).choose, fun i o hi ho hmd => (this i).choose_spec o hi ho hmd⟩
    have hmk := makeL_mask (f := f) (f0 := f0) (β := β) (l.take n) 0 a (fun i o ho hmd => by obtain ⟨hi, ho'⟩ := hback i o ho; simpa using S.old i o hi ho' hmd)
      (fun i o ho hmd => by obtain ⟨hi, ho'⟩ := hback i o ho; simpa using hβ i o hi ho' hmd)
      (fun i j o o' ho ho' hne => by
        obtain ⟨hi, h1⟩ := hback i o ho
        obtain ⟨hj, h2⟩ := hback j o' ho'
        exact H.dsts i o hi h1 j o' hj h2 (Ne.symm hne))
    rw [hmk]
    have hw := h2 β w' S.below (fun i o p hi ho hmd hp => by
        obtain ⟨B, e1, e2, e3, e4⟩ := S.made i o p hi ho hmd hp (ha i hi)
        have e5 := hβ i o hi ho hmd
        rw [e1] at e5
        have e6 : B = β i := by simp [ptr] at e5; exact e5
        subst e6
        exact ⟨e2, fun hc => e3 (fun s o' q a1 a2 a3 => absurd a3 (hc s o' q a1 a2)), fun s o' q a1 a2 a3 => e4 s o' q a1 a2 a3 (ha s a1)⟩)
      (fun i j o o' hi hj ho ho' hmd hmd' hne e => by
        refine S.apart i j o o' hi hj ho ho' hmd hmd' (ha i hi) (ha j hj) hne ?_
        rw [hβ i o hi ho hmd, hβ j o' hj ho' hmd', e])
    have := hT _ _ hw
    unfold upTo at this
    rwa [← hl] at this
  have hunl : ∀ k, unl (Array.replicate l.toArray.size false) k ≤ k := by
    intro k
    induction k with
    | zero => exact Nat.le_refl _
    | succ k ih => unfold unl; split <;> omega
  have S0 : Stand w l n T Z f0 (maskL (fun _ => true) f0 0 (l.take n) a) (Array.replicate l.toArray.size false) f0 w.drew := by
    refine ⟨by simp, fun t _ ht => getD_in (by simpa using ht) (getD_replicate_false _ _), (Below.refl _ _).drew, fun _ _ _ _ _ => rfl, ?_, ?_⟩
    · intro i o p _ _ _ _ hl; rw [getD_replicate_false] at hl; cases hl
    · intro i j o o' _ _ _ _ _ _ hl; rw [getD_replicate_false] at hl; cases hl
  have hany := wpAny_grow (md := .any) (P := P) H Q a f0 Fit (fun i o a w p q B hi ho hko => hstore o a w p q B (storeOf_ok (List.all_eq_true.1 hk o (List.mem_of_getElem? (htake i o hi ho))) hko)) hfit (fun i o p hi ho hmd hp => by have := hsz i o p hi ho hmd hp; rwa [maskL_size] at this) hrun (fun i o hi ho hmd => h1 i o (htake i o hi ho) hmd) hfin n (Array.replicate l.toArray.size false) f0 w.drew (hunl n)
    (fun s _ hl => by rw [getD_replicate_false] at hl; cases hl) S0
  have hle := H.le
  have e1 : n + (l.length - n) = l.toArray.size := by simp; omega
  have e2 : maskL (fun m => (Array.replicate l.toArray.size false).getD m false) f0 0 (l.take n) a = a := by
    have : (fun m => (Array.replicate l.toArray.size false).getD m false) = (fun m => decide (m < 0)) := by
      funext m; rw [getD_replicate_false]; simp
    rw [this, maskL_none]
  rw [e1, e2] at hany
  exact hany

/-- what stands behind the head: a tail in its order -/
def Behind (P : Program) (W : World) (l : List Oper) (n : Nat) (T : TypeId) (Z : Array Value) (Fit : Value → Prop) (Q : Exit → Act → World → Prop) (a : Act) : Prop := BehindR W l n T Z Fit (wpList P l.toArray Q (l.drop n)) a
theorem wp_region_grow {P : Program} {id : Nat} {Q : Exit → Act → World → Prop} {a : Act} {w : World} {l : List Oper} (n : Nat) (T : TypeId) (Z : Array Value) (Fit : Value → Prop) (hm : P.follows .mixedOrders = true) (hB : headB .any l n T = true)
    (hT : Region.seqB .any l.toArray (l.length - n) n (upTo l n) = true)
    (hrun : ∀ (o : Oper) (a : Act) (w : World), o.op = .alloc T → (execOp a.eval o).run P w = .ok (.value (ptr w.heap.size)) (w.alloc (.cells Z T)))
    (hk : (l.take n).all (storeOf T) = true)
    (hstore : ∀ (o : Oper) (a : Act) (w : World) (p q : Tmp) (B : Nat), o.op = .store T (.tmp p) (.tmp q) → a.tmps.getD p undef = ptr B → w.heap[B]? = some (.cells Z T (0, 0)) → Fit (a.tmps.getD q undef) →
      ∃ w', (execOp a.eval o).run P w = .ok .skip w' ∧ w.grownBy w' (some B) ∧ w'.heap[B]? = some (.cells (a.tmps.getD q undef).cells T (0, 0)))
    (h : lexW P w l.toArray (Behind P w l n T Z Fit Q) (l.take n) a) : (Code.region id l.toArray true).wp P Q a w :=
  wp_region_growR n T Z Fit hm hB (wpList P l.toArray Q (l.drop n)) (fun a w h => by
    have hdl : (l.drop n).length = l.length - n := by simp
    have := wpAny_of_seq (md := .any) (Q' := Q) (l.drop n) n (upTo l n) a w (fun j => by simp [List.getElem?_drop]) (by rw [hdl]; exact hT) h
    rwa [hdl] at this) hrun hk hstore h

/-- the variables that a list makes: the place in the list, the slot -/
def madeL : Nat → List Oper → List (Nat × Tmp)
  | _, [] => []
  | k, o :: l => (if isMade o = true then (match o.dst with | some p => [(k, p)] | none => []) else []) ++ madeL (k + 1) l
theorem madeL_mem : ∀ (l : List Oper) (k i : Nat) (o : Oper) (p : Tmp), l[i]? = some o → isMade o = true → o.dst = some p → (k + i, p) ∈ madeL k l
  | [], _, _, _, _, h, _, _ => by simp at h
  | o' :: l, k, 0, o, p, h, hm, hp => by
    simp only [List.getElem?_cons_zero, Option.some.injEq] at h
    subst h
    unfold madeL
    rw [if_pos hm, hp]
    simp
  | o' :: l, k, i + 1, o, p, h, hm, hp => by
    simp only [List.getElem?_cons_succ] at h
    unfold madeL
    have := madeL_mem l (k + 1) i o p h hm hp
    rw [show k + 1 + i = k + (i + 1) by omega] at this
    exact List.mem_append_right _ this
theorem madeL_of : ∀ (l : List Oper) (k : Nat) (ip : Nat × Tmp), ip ∈ madeL k l → ∃ i o, ip.1 = k + i ∧ l[i]? = some o ∧ isMade o = true ∧ o.dst = some ip.2
  | [], _, _, h => by simp [madeL] at h
  | o :: l, k, ip, h => by
    unfold madeL at h
    rcases List.mem_append.1 h with h | h
    · split at h
      · rename_i hm
        split at h
        · rename_i p hp
          simp only [List.mem_singleton] at h
          subst h
          exact ⟨0, o, rfl, rfl, hm, hp⟩
        · cases h
      · cases h
    · obtain ⟨i, o', h1, h2, h3, h4⟩ := madeL_of l (k + 1) ip h
      exact ⟨i + 1, o', by omega, by simpa using h2, h3, h4⟩

/-- what a variable holds behind the head -/
def heldIn (Z : Array Value) (a : Act) (p : Tmp) : List (Tmp × Tmp) → Array Value
  | [] => Z
  | pq :: ks => if pq.1 = p then (a.tmps.getD pq.2 undef).cells else heldIn Z a p ks
theorem heldIn_no (Z : Array Value) (a : Act) (p : Tmp) : ∀ (ks : List (Tmp × Tmp)), (∀ q, (p, q) ∉ ks) → heldIn Z a p ks = Z
  | [], _ => rfl
  | pq :: ks, h => by
    unfold heldIn
    rw [if_neg (fun e => h pq.2 (by rw [← e]; exact List.mem_cons_self)), heldIn_no Z a p ks (fun q hq => h q (List.mem_cons_of_mem _ hq))]
theorem heldIn_some (Z : Array Value) (a : Act) (p : Tmp) : ∀ (ks : List (Tmp × Tmp)), (∃ q, (p, q) ∈ ks) → ∃ q, (p, q) ∈ ks ∧ heldIn Z a p ks = (a.tmps.getD q undef).cells
  | [], h => by obtain ⟨q, hq⟩ := h; cases hq
  | pq :: ks, h => by
    unfold heldIn
    by_cases e : pq.1 = p
    · rw [if_pos e]
      exact ⟨pq.2, by rw [← e]; exact List.mem_cons_self, rfl⟩
    · rw [if_neg e]
      obtain ⟨q, hq⟩ := h
      rcases List.mem_cons.1 hq with h1 | h1
      · exact absurd (by rw [← h1]) e
      · obtain ⟨q', h2, h3⟩ := heldIn_some Z a p ks ⟨q, h1⟩
        exact ⟨q', List.mem_cons_of_mem _ h2, h3⟩

/-- what stands behind the head, over its variables and its stores as lists -/
def Behind3 (W : World) (T : TypeId) (Z : Array Value) (Fit : Value → Prop) (ms : List (Nat × Tmp)) (ks : List (Tmp × Tmp)) (mk : (Nat → Nat) → Act → Act) (R : Act → World → Prop) (a : Act) : Prop :=
  (∀ pq ∈ ks, Fit (a.tmps.getD pq.2 undef)) ∧ (∀ ip ∈ ms, ip.2 < a.tmps.size) ∧
  ∀ (β : Nat → Nat) (w : World), Below W.heap.size W w → (∀ ip ∈ ms, W.heap.size ≤ β ip.1 ∧ w.heap[β ip.1]? = some (.cells (heldIn Z a ip.2 ks) T (0, 0))) →
    (∀ ip ∈ ms, ∀ jq ∈ ms, ip.1 ≠ jq.1 → β ip.1 ≠ β jq.1) → R (mk β a) w
def Behind2 (P : Program) (W : World) (l tail : List Oper) (T : TypeId) (Z : Array Value) (Fit : Value → Prop) (ms : List (Nat × Tmp)) (ks : List (Tmp × Tmp)) (mk : (Nat → Nat) → Act → Act) (Q : Exit → Act → World → Prop) (a : Act) : Prop :=
  (∀ pq ∈ ks, Fit (a.tmps.getD pq.2 undef)) ∧ (∀ ip ∈ ms, ip.2 < a.tmps.size) ∧
  ∀ (β : Nat → Nat) (w : World), Below W.heap.size W w → (∀ ip ∈ ms, W.heap.size ≤ β ip.1 ∧ w.heap[β ip.1]? = some (.cells (heldIn Z a ip.2 ks) T (0, 0))) →
    (∀ ip ∈ ms, ∀ jq ∈ ms, ip.1 ≠ jq.1 → β ip.1 ≠ β jq.1) → wpList P l.toArray Q tail (mk β a) w

theorem Behind3.behind {W : World} {l : List Oper} {n : Nat} {T : TypeId} {Z : Array Value} {Fit : Value → Prop} {ms : List (Nat × Tmp)} {ks : List (Tmp × Tmp)} {mk : (Nat → Nat) → Act → Act} {R : Act → World → Prop} {a : Act}
    (hms : madeL 0 (l.take n) = ms) (hks : (l.take n).filterMap keptAt = ks) (hmk : ∀ β a, makeL β 0 (l.take n) a = mk β a) (h : Behind3 W T Z Fit ms ks mk R a) : BehindR W l n T Z Fit R a := by
  obtain ⟨h1, h2, h3⟩ := h
  have htake : ∀ i o, i < n → l[i]? = some o → (l.take n)[i]? = some o := fun i o hi ho => by rw [List.getElem?_take, if_pos hi]; exact ho
  have hback : ∀ i o, (l.take n)[i]? = some o → i < n ∧ l[i]? = some o := fun i o ho => by
    have hi : i < n := by
      rcases Nat.lt_or_ge i n with h | h
      · exact h
      · rw [List.getElem?_eq_none (by simp; omega)] at ho; cases ho
    exact ⟨hi, by rwa [List.getElem?_take, if_pos hi] at ho⟩
  have hk : ∀ i o pq, i < n → l[i]? = some o → keptAt o = some pq → pq ∈ ks := fun i o pq hi ho hk => by
    rw [← hks]
    exact List.mem_filterMap.2 ⟨o, List.mem_of_getElem? (htake i o hi ho), hk⟩
  have hk2 : ∀ pq, pq ∈ ks → ∃ i o, i < n ∧ l[i]? = some o ∧ keptAt o = some pq := fun pq hpq => by
    rw [← hks] at hpq
    obtain ⟨o, ho, hk⟩ := List.mem_filterMap.1 hpq
    obtain ⟨i, hi⟩ := List.mem_iff_getElem?.1 ho
    obtain ⟨h4, h5⟩ := hback i o hi
    exact ⟨i, o, h4, h5, hk⟩
  have hm : ∀ i o p, i < n → l[i]? = some o → isMade o = true → o.dst = some p → (i, p) ∈ ms := fun i o p hi ho hmd hp => by
    have := madeL_mem (l.take n) 0 i o p (htake i o hi ho) hmd hp
    rwa [hms, Nat.zero_add] at this
  refine ⟨fun i o p q hi ho hko => h1 (p, q) (hk i o _ hi ho hko), fun i o p hi ho hmd hp => h2 (i, p) (hm i o p hi ho hmd hp), fun β w hb hc hd => ?_⟩
  rw [hmk]
  refine h3 β w hb (fun ip hip => ?_) (fun ip hip jq hjq hne => ?_)
  · rw [← hms] at hip
    obtain ⟨i, o, e1, e2, e3, e4⟩ := madeL_of _ _ ip hip
    obtain ⟨hi, ho⟩ := hback i o e2
    have e5 : ip.1 = i := by omega
    rw [e5]
    obtain ⟨g1, g2, g3⟩ := hc i o ip.2 hi ho e3 e4
    refine ⟨g1, ?_⟩
    by_cases hh : ∃ q, (ip.2, q) ∈ ks
    · obtain ⟨q, hq, he⟩ := heldIn_some Z a ip.2 ks hh
      obtain ⟨s, o', hs, ho', hk'⟩ := hk2 _ hq
      rw [he]
      exact g3 s o' q hs ho' hk'
    · rw [heldIn_no Z a ip.2 ks (fun q hq => hh ⟨q, hq⟩)]
      exact g2 (fun s o' q hs ho' hko => hh ⟨q, hk s o' _ hs ho' hko⟩)
  · rw [← hms] at hip hjq
    obtain ⟨i, o, e1, e2, e3, e4⟩ := madeL_of _ _ ip hip
    obtain ⟨hi, ho⟩ := hback i o e2
    obtain ⟨j, o', f1, f2, f3, f4⟩ := madeL_of _ _ jq hjq
    obtain ⟨hj, ho'⟩ := hback j o' f2
    have e5 : ip.1 = i := by omega
    have f5 : jq.1 = j := by omega
    rw [e5, f5]
    exact hd i j o o' hi hj ho ho' e3 f3 (by omega)
theorem Behind2.behind {P : Program} {W : World} {l tail : List Oper} {n : Nat} {T : TypeId} {Z : Array Value} {Fit : Value → Prop} {ms : List (Nat × Tmp)} {ks : List (Tmp × Tmp)} {mk : (Nat → Nat) → Act → Act} {Q : Exit → Act → World → Prop} {a : Act}
    (hms : madeL 0 (l.take n) = ms) (hks : (l.take n).filterMap keptAt = ks) (ht : l.drop n = tail) (hmk : ∀ β a, makeL β 0 (l.take n) a = mk β a) (h : Behind2 P W l tail T Z Fit ms ks mk Q a) : Behind P W l n T Z Fit Q a := by
  subst ht
  exact Behind3.behind (R := wpList P l.toArray Q (l.drop n)) hms hks hmk h
end Go.Proofs.Ytkecdfhpoeknkaa
