/- A whole block written cell by cell. -/
import Derived.Test.YtgkljcmjnphpeaaDoorBlk
import Derived.Laws.IdiomCopy
set_option linter.unusedVariables false
set_option linter.unusedSimpArgs false
namespace Go
open Go.RowKit

theorem setCells_blk (b : Nat) (t : TypeId) (fz : Nat × Nat) : ∀ (vs : List Value) (o : Nat) (w : World) (C : Array Value), w.heap[b]? = some (.cells C t fz) →
    ∃ R : Array Value, (w.setCells b o vs).heap[b]? = some (.cells R t fz) ∧ R.size = C.size ∧ ∀ j, R[j]? = if o ≤ j ∧ j < o + vs.length ∧ j < C.size then vs[j - o]? else C[j]?
  | [], o, w, C, h => ⟨C, h, rfl, fun j => by rw [if_neg (by simp; omega)]⟩
  | v :: vs, o, w, C, h => by
    obtain ⟨R, h1, h2, h3⟩ := setCells_blk b t fz vs (o + 1) (w.setCell ⟨b, o, none⟩ v) (C.setIfInBounds o v) (blk_setCell v h)
    refine ⟨R, h1, by rw [h2]; simp, fun j => ?_⟩
    rw [h3 j, Array.size_setIfInBounds]
    by_cases c1 : o + 1 ≤ j ∧ j < o + 1 + vs.length ∧ j < C.size
    · rw [if_pos c1, if_pos (by simp; omega), show j - o = (j - (o + 1)) + 1 by omega, List.getElem?_cons_succ]
    · rw [if_neg c1]
      by_cases c2 : o = j
      · subst c2
        by_cases c3 : o < C.size
        · rw [if_pos (by simp; omega)]; simp [c3]
        · rw [if_neg (by omega)]; simp [c3]
      · rw [if_neg (by simp; omega), Array.getElem?_setIfInBounds_ne c2]

theorem setCells_whole {w : World} {b : Nat} {t : TypeId} {fz : Nat × Nat} {C : Array Value} {vs : List Value} (h : w.heap[b]? = some (.cells C t fz)) (hs : C.size = vs.length) : (w.setCells b 0 vs).heap[b]? = some (.cells vs.toArray t fz) := by
  obtain ⟨R, h1, h2, h3⟩ := setCells_blk b t fz vs 0 w C h
  rw [h1]
  congr 2
  apply Array.ext (by simp [h2, hs])
  intro i hi1 hi2
  have := h3 i
  rw [if_pos ⟨by omega, by omega, by omega⟩, Nat.sub_zero] at this
  have h4 : i < vs.length := by simpa using hi2
  rw [Array.getElem?_eq_getElem hi1, List.getElem?_eq_getElem h4] at this
  simpa using this

theorem setCells_ne (b : Nat) {k : Nat} (hk : k ≠ b) : ∀ (vs : List Value) (o : Nat) (w : World), (w.setCells b o vs).heap[k]? = w.heap[k]?
  | [], _, _ => rfl
  | v :: vs, o, w => by
    show ((w.setCell ⟨b, o, none⟩ v).setCells b (o + 1) vs).heap[k]? = _
    rw [setCells_ne b hk vs (o + 1), blk_setCell_ne _ hk]
theorem setCells_below (b B : Nat) (hb : B ≤ b) : ∀ (vs : List Value) (o : Nat) (a w : World), Below B a w → Below B a (w.setCells b o vs)
  | [], _, _, _, h => h
  | v :: vs, o, a, w, h => setCells_below b B hb vs (o + 1) a _ (h.setCell hb v)
theorem setCells_size (b : Nat) : ∀ (vs : List Value) (o : Nat) (w : World), (w.setCells b o vs).heap.size = w.heap.size
  | [], _, _ => rfl
  | v :: vs, o, w => by
    show ((w.setCell ⟨b, o, none⟩ v).setCells b (o + 1) vs).heap.size = _
    rw [setCells_size b vs (o + 1)]; simp
end Go
