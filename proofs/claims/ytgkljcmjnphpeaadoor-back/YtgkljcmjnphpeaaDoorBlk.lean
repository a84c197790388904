/- Blocks of memory: what a store, a new block and a draw leave of them. -/
import Derived.WalkKit
import Derived.Deep.Draws
set_option linter.unusedVariables false
set_option linter.unusedSimpArgs false
namespace Go
open Go.RowKit

theorem blk_lt {w : World} {b : Nat} {o : Obj} (h : w.heap[b]? = some o) : b < w.heap.size := lt_of_block h

theorem blk_setCell {w : World} {b i : Nat} {c : Array Value} {t : TypeId} {fz : Nat × Nat} (v : Value) (h : w.heap[b]? = some (.cells c t fz)) :
    (w.setCell ⟨b, i, none⟩ v).heap[b]? = some (.cells (c.setIfInBounds i v) t fz) := by
  have hlt := lt_of_block h
  have h' : w.heap[b] = .cells c t fz := by simpa [Array.getElem?_eq_getElem hlt] using h
  show (w.heap.modify b _)[b]? = _
  rw [Array.getElem?_eq_getElem (by simpa using hlt), Array.getElem_modify_self, h']
  rfl

theorem blk_setCell_ne {w : World} {b b' i : Nat} (v : Value) (hne : b' ≠ b) : (w.setCell ⟨b, i, none⟩ v).heap[b']? = w.heap[b']? :=
  Below.heap_setCell _ _ _ _ hne

theorem blk_alloc {w : World} {b : Nat} {o : Obj} (o' : Obj) (h : w.heap[b]? = some o) : (w.alloc o').heap[b]? = some o := by
  rw [Below.heap_alloc _ _ _ (lt_of_block h)]; exact h

theorem blk_new (w : World) (o : Obj) : (w.alloc o).heap[w.heap.size]? = some o := by
  show (w.heap.push o)[w.heap.size]? = _
  simp

theorem cell_blk {w : World} {b i : Nat} {c : Array Value} {t : TypeId} {fz : Nat × Nat} (h : w.heap[b]? = some (.cells c t fz)) : w.cell? ⟨b, i, none⟩ = c[i]? := by
  simp [World.cell?, h]

theorem free_blk {w : World} {b i : Nat} {c : Array Value} {t : TypeId} (h : w.heap[b]? = some (.cells c t (0, 0))) : w.frozen? ⟨b, i, none⟩ = false := by
  simp [World.frozen?, h]

theorem own_ne {w : World} {B b : Nat} {e t : TypeId} {size n : Nat} {v : Value} {xs : List Value} {c : Array Value} {fz : Nat × Nat} (h : w.ownsRow B e size v n xs) (hb : w.heap[b]? = some (.cells c t fz)) (hne : t ≠ e) : v.ownBlock ≠ some b := by
  rcases h.2 with ⟨rfl, _⟩ | ⟨g, cap, cur, rfl, _, hh, _⟩
  · simp [Value.ownBlock]
  · intro he
    have : g = b := by simpa [Value.ownBlock] using he
    subst this
    rw [hh] at hb
    simp at hb
    exact hne hb.2.1.symm

theorem cell_ne {w : World} {a b : Addr} (v : Value) (h : a.block ≠ b.block) : (w.setCell a v).cell? b = w.cell? b := World.cell?_setCell_other w a b v (fun e => h (by rw [e]))

/-- What a call leaves of memory that was there: all blocks but those of S, and but rows of type e from B on. -/
structure Kept (e : TypeId) (B : Nat) (S : List Nat) (w w' : World) : Prop where
  os : w'.os = w.os
  tape : w'.tape = w.tape
  output : w'.output = w.output
  size : w.heap.size ≤ w'.heap.size
  block : ∀ k o, k ∉ S → w.heap[k]? = some o → (k < B ∨ ∀ c fz, o ≠ .cells c e fz) → w'.heap[k]? = some o

variable {e : TypeId} {B : Nat} {S : List Nat}

theorem Kept.refl (e : TypeId) (B : Nat) (S : List Nat) (w : World) : Kept e B S w w := ⟨rfl, rfl, rfl, Nat.le_refl _, fun _ _ _ h _ => h⟩
theorem Kept.trans {a b c : World} (h : Kept e B S a b) (k : Kept e B S b c) : Kept e B S a c :=
  ⟨k.os.trans h.os, k.tape.trans h.tape, k.output.trans h.output, Nat.le_trans h.size k.size, fun i o hi ho hc => k.block i o hi (h.block i o hi ho hc) hc⟩
theorem Kept.mono {S' : List Nat} {a b : World} (h : Kept e B S a b) (hs : ∀ k, k ∈ S → k ∈ S') : Kept e B S' a b :=
  ⟨h.os, h.tape, h.output, h.size, fun i o hi ho hc => h.block i o (fun m => hi (hs i m)) ho hc⟩
theorem Kept.less {B' : Nat} {a b : World} (h : Kept e B S a b) (hb : B' ≤ B) : Kept e B' S a b :=
  ⟨h.os, h.tape, h.output, h.size, fun i o hi ho hc => h.block i o hi ho (hc.imp (fun x => Nat.lt_of_lt_of_le x hb) id)⟩
theorem Kept.drewN {a w : World} (h : Kept e B S a w) (n : Nat) : Kept e B S a (w.drewN n) := ⟨h.os, h.tape, h.output, h.size, h.block⟩
theorem Kept.drew {a w : World} (h : Kept e B S a w) : Kept e B S a w.drew := ⟨h.os, h.tape, h.output, h.size, h.block⟩
theorem Kept.alloc {a w : World} (h : Kept e B S a w) (o : Obj) : Kept e B S a (w.alloc o) :=
  h.trans ⟨rfl, rfl, rfl, by simp, fun _ _ _ hk _ => blk_alloc _ hk⟩
theorem Kept.setCell {a w : World} (h : Kept e B S a w) {p : Addr} (hp : p.block ∈ S) (u : Value) : Kept e B S a (w.setCell p u) :=
  h.trans ⟨rfl, rfl, rfl, by simp [World.setCell], fun k _ (hk : k ∉ S) ho _ => by rw [Below.heap_setCell _ _ _ _ (fun c => hk (by rw [c]; exact hp))]; exact ho⟩
theorem Kept.grown {a w w' : World} {row : Option Nat} (h : Kept e B S a w) (hg : w.grownBy w' row) (hr : ∀ g, row = some g → B ≤ g ∧ ∃ cur fz, w.heap[g]? = some (.cells cur e fz)) : Kept e B S a w' :=
  h.trans ⟨hg.os, hg.tape, hg.output, hg.size, fun k o _ ho hc => by
    rw [hg.block k (lt_of_block ho) (fun c => by
      obtain ⟨h1, cur, fz, h2⟩ := hr k c.symm
      rw [h2] at ho
      rcases hc with hc | hc
      · omega
      · exact hc cur fz (Option.some.inj ho).symm)]
    exact ho⟩
theorem Kept.below {a b : World} (h : Kept e B S a b) (hB : B ≤ a.heap.size) (hs : ∀ k, k ∈ S → B ≤ k) : Below B a b :=
  ⟨h.os, h.tape, h.output, h.size, fun k hk => by
    obtain ⟨o, ho⟩ : ∃ o, a.heap[k]? = some o := ⟨a.heap[k]'(by omega), Array.getElem?_eq_getElem _⟩
    rw [ho]; exact h.block k o (fun m => by have := hs k m; omega) ho (Or.inl hk)⟩
theorem Kept.cell {a b : World} (h : Kept e B S a b) (hs : ∀ k, k ∈ S → B ≤ k) {p : Addr} {v : Value} (hp : p.block < B) (hv : a.cell? p = some v) : b.cell? p = some v := by
  have hlt := World.block_lt_of_cell? a p hv
  obtain ⟨o, ho⟩ : ∃ o, a.heap[p.block]? = some o := ⟨a.heap[p.block]'hlt, Array.getElem?_eq_getElem _⟩
  have := h.block p.block o (fun m => by have := hs _ m; omega) ho (Or.inl hp)
  rw [World.cell?_of_block (w := a) (this.trans ho.symm)]; exact hv

theorem own_row {w : World} {B : Nat} {e : TypeId} {size n : Nat} {v : Value} {xs : List Value} (h : w.ownsRow B e size v n xs) : ∀ g, v.ownBlock = some g → B ≤ g ∧ ∃ cur fz, w.heap[g]? = some (.cells cur e fz) := by
  intro g hg
  rcases h.2 with ⟨rfl, _⟩ | ⟨g', cap, cur, rfl, hb, hh, _⟩
  · simp [Value.ownBlock] at hg
  · simp [Value.ownBlock] at hg; subst hg; exact ⟨hb, cur, _, hh⟩

theorem own_slice {w : World} {B e n : Nat} {v : Value} {xs : List Value} {size : Nat} (h : w.ownsRow B e size v n xs) : ∃ ao c, v = .slice ao n c := by
  rcases h.2 with ⟨e1, e2⟩ | ⟨g, cap, cur, e1, _⟩
  · exact ⟨none, 0, by rw [e1, e2]⟩
  · exact ⟨_, _, e1⟩

end Go
