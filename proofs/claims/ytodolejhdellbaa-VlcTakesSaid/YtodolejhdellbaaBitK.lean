/- Writers and readers behind a step that turns other blocks. -/
import Derived.Test.YtodolejhdellbaaBitR
import Derived.Test.YtodolejhdellbaaBitM3
namespace Go.Proofs.Ytodolejhdellbaa
open Go.RowKit

theorem touch_new {W w w' : World} {S : Nat → Prop} (h : Touch W w (fun _ => False)) (k : Touch w w' S) (hs : ∀ i, S i → W.heap.size ≤ i) : Touch W w' (fun _ => False) := h.trans k (fun i hi => .inr (hs i hi))
theorem foot_new {w : World} {base g : Nat} {v : Value} {l : List Bool} {B : Nat} (h : Wr w base g v l) (hB : B ≤ base) : ∀ i, foot g v i → B ≤ i := by
  intro i hi
  have := h.from_
  rcases hi with rfl | hi
  · omega
  · have := (h.own.lt i hi).1; omega
theorem Wr.kept {w w' : World} {base g : Nat} {v : Value} {l : List Bool} {S : Nat → Prop} (h : Wr w base g v l) (k : Touch w w' S) (hs : ∀ i, foot g v i → ¬ S i) : Wr w' base g v l :=
  ⟨h.from_, h.cel.kept k (hs g (.inl rfl)), own_kept h.own k (fun i hi => hs i (.inr hi))⟩
theorem Rd.kept {w w' : World} {base g : Nat} {A : Option Addr} {c : Nat} {p : List Nat} {t : Nat} {S : Nat → Prop} (h : Rd w base g A c p t) (k : Touch w w' S) (hs : ∀ i, base ≤ i → i < w.heap.size → ¬ S i) : Rd w' base g A c p t :=
  ⟨h.from_, h.cel.kept k (hs g h.from_ h.cel.lt), own_kept h.own k (fun i hi => hs i (h.own.lt i hi).1 (h.own.lt i hi).2), h.good, h.taken⟩
theorem Rd.kept0 {w w' : World} {base g : Nat} {A : Option Addr} {c : Nat} {p : List Nat} {t : Nat} (h : Rd w base g A c p t) (k : Touch w w' (fun _ => False)) : Rd w' base g A c p t := h.kept k (fun _ _ _ e => e)
theorem Wr.kept0 {w w' : World} {base g : Nat} {v : Value} {l : List Bool} (h : Wr w base g v l) (k : Touch w w' (fun _ => False)) : Wr w' base g v l := h.kept k (fun _ _ e => e)

end Go.Proofs.Ytodolejhdellbaa
