/- The fixed codes' tables: their lengths and bounds. -/
import Derived.Test.YtgkljcmjnphpeaaDoorBySym
set_option linter.unusedVariables false
set_option linter.unusedSimpArgs false
namespace Go.Proofs.YtgkljcmjnphpeaaDoor
open Go.RowKit
variable {w : World}

theorem ssF_num : psum Fo.csF 15 ≤ Fo.ssF.length ∧ Fo.ssF.length ≤ 1000 ∧ (∀ x ∈ Fo.ssF, x < 288) ∧ ∀ k : Fin 16, valAt Fo.csF k.val ≤ 100000 := by decide +kernel
theorem sdF_num : psum Fo.cdF 15 ≤ Fo.sdF.length ∧ Fo.sdF.length ≤ 1000 ∧ (∀ x ∈ Fo.sdF, x < 32) ∧ ∀ k : Fin 16, valAt Fo.cdF k.val ≤ 100000 := by decide +kernel
theorem nth_mem {l : List Nat} {i : Nat} (h : i < l.length) : nth l i ∈ l := by
  have e : nth l i = l[i] := by simp [nth, h]
  rw [e]; exact List.getElem_mem h

def CdF (w : World) (b : Nat) : Prop := Cd w b 0 Fo.csF Fo.ssF
def CdD (w : World) (b : Nat) : Prop := Cd w b 17 Fo.cdF Fo.sdF

theorem bySymF (b : Nat) (h : CdF w b) : Calls Tryd.prog 63 #[.pointer (some ⟨b, 0, none⟩), .int .i64 288] w fun e w' => e = .returned (.slice (some ⟨w.heap.size, 0, none⟩) 288 288) ∧ CodeRow w' w.heap.size Fo.tabF ∧ Below w.heap.size w w' := by
  obtain ⟨a1, a2, a3, a4⟩ := ssF_num
  have := bySymbol_ok b 0 288 Fo.csF Fo.ssF h (by omega) a1 a2 (fun i hi => a3 _ (nth_mem hi)) (fun k hk => a4 ⟨k, by omega⟩)
  rw [tabF_at] at this
  exact this
theorem bySymD (b : Nat) (h : CdD w b) : Calls Tryd.prog 63 #[.pointer (some ⟨b, 17, none⟩), .int .i64 32] w fun e w' => e = .returned (.slice (some ⟨w.heap.size, 0, none⟩) 32 32) ∧ CodeRow w' w.heap.size Fo.tadF ∧ Below w.heap.size w w' := by
  obtain ⟨a1, a2, a3, a4⟩ := sdF_num
  have := bySymbol_ok b 17 32 Fo.cdF Fo.sdF h (by omega) a1 a2 (fun i hi => a3 _ (nth_mem hi)) (fun k hk => a4 ⟨k, by omega⟩)
  rw [tadF_at] at this
  exact this

theorem CdF.below {b : Nat} {w' : World} (h : CdF w b) (k : Below w.heap.size w w') : CdF w' b :=
  Cd.below h k (by obtain ⟨_, g, c, h2, _⟩ := h; exact World.block_lt_of_cell? w _ h2) (fun g c e => by
    obtain ⟨_, g', c', h2, h3⟩ := h
    rw [h2] at e; cases e
    exact World.block_lt_of_cell? w _ (h3 0 (by decide +kernel)))
theorem CdD.below {b : Nat} {w' : World} (h : CdD w b) (k : Below w.heap.size w w') : CdD w' b :=
  Cd.below h k (by obtain ⟨_, g, c, h2, _⟩ := h; exact World.block_lt_of_cell? w _ h2) (fun g c e => by
    obtain ⟨_, g', c', h2, h3⟩ := h
    rw [h2] at e; cases e
    exact World.block_lt_of_cell? w _ (h3 0 (by decide +kernel)))

theorem fixed_cd {b g1 g2 T : Nat} {fz : Nat × Nat} (hb : w.heap[b]? = some (.cells (fixedCells g1 g2).toArray T fz)) (i1 : IntRow w g1 Fo.ssF) (i2 : IntRow w g2 Fo.sdF) : CdF w b ∧ CdD w b := by
  have hcell : ∀ i v, (fixedCells g1 g2)[i]? = some v → w.cell? ⟨b, i, none⟩ = some v := by
    intro i v hv
    rw [cell_blk hb]; simpa using hv
  have l1 := csF_len
  have l2 := cdF_len
  have li1 : (ints Fo.csF).length = 16 := by simpa [ints] using l1
  have li2 : (ints Fo.cdF).length = 16 := by simpa [ints] using l2
  unfold CdF CdD
  unfold fixedCells at hcell
  clear hb
  generalize Fo.csF = CS at *
  generalize Fo.ssF = SS at *
  generalize Fo.cdF = CD at *
  generalize Fo.sdF = SD at *
  refine ⟨⟨?_, g1, SS.length, ?_, i1.cell⟩, ⟨?_, g2, SD.length, ?_, i2.cell⟩⟩
  · intro i hi
    refine hcell (0 + i) _ ?_
    rw [Nat.zero_add, List.getElem?_append_left (by omega)]; exact ints_get _ _ (by omega)
  · refine hcell (0 + 16) _ ?_
    rw [List.getElem?_append_right (by omega), li1]; rfl
  · intro i hi
    refine hcell (17 + i) _ ?_
    rw [List.getElem?_append_right (by omega), li1, show 17 + i - 16 = i + 1 by omega, List.getElem?_cons_succ, List.getElem?_append_left (by omega)]; exact ints_get _ _ (by omega)
  · refine hcell (17 + 16) _ ?_
    rw [List.getElem?_append_right (by omega), li1, show 17 + 16 - 16 = 16 + 1 by omega, List.getElem?_cons_succ, List.getElem?_append_right (by omega), li2]; rfl
end Go.Proofs.YtgkljcmjnphpeaaDoor
namespace Go.Proofs.YtgkljcmjnphpeaaDoor
open Go.RowKit

theorem tabF_len : Fo.tabF.length = 288 := by decide +kernel
theorem tadF_len : Fo.tadF.length = 32 := by decide +kernel
theorem tabF_le : ∀ s : Fin 288, (tnth Fo.tabF s.val).1 < 1024 ∧ (tnth Fo.tabF s.val).2 ≤ 9 := by decide +kernel
theorem tadF_le : ∀ s : Fin 32, (tnth Fo.tadF s.val).1 < 1024 ∧ (tnth Fo.tadF s.val).2 ≤ 9 := by decide +kernel
end Go.Proofs.YtgkljcmjnphpeaaDoor
