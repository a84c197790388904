/- A block of what filter 4 has packed: inflater.block. -/
import Derived.Test.YtgkljcmjnphpeaaDoorStored
set_option linter.unusedVariables false
set_option linter.unusedSimpArgs false
namespace Go.Proofs.YtgkljcmjnphpeaaDoor
open Go.RowKit
variable {B br bf bd off cap : Nat} {d : List Nat} {most : Nat} {fixed : List Value} {w : World} {p held left window : Nat} {ov : Value} {out : List Nat}

def ints (l : List Nat) : List Value := l.map fun x : Nat => .int .i64 (x : Int)

/-- A row of ints in memory. -/
def IntRow (w : World) (g : Nat) (l : List Nat) : Prop := ∃ c fz, w.heap[g]? = some (.cells c 3 fz) ∧ ∀ i, i < l.length → c[i]? = some (.int .i64 (nth l i : Nat))
theorem IntRow.kept {g : Nat} {l : List Nat} {w' : World} {S : List Nat} (h : IntRow w g l) (k : Kept 5 B S w w') (hS : g ∉ S) : IntRow w' g l := by
  obtain ⟨c, fz, hb, hc⟩ := h
  exact ⟨c, fz, k.block g _ hS hb (Or.inr (by intro c' fz' e; simp at e)), hc⟩
theorem IntRow.cell {g : Nat} {l : List Nat} (h : IntRow w g l) (i : Nat) (hi : i < l.length) : w.cell? ⟨g, i, none⟩ = some (.int .i64 (nth l i : Nat)) := by
  obtain ⟨c, fz, hb, hc⟩ := h
  rw [cell_blk hb]; exact hc i hi

/-- The fixed codes as an inflater holds them. -/
structure Fix (w : World) (br bf : Nat) (fixed : List Value) : Prop where
  ex : ∃ g1 c1 g2 c2, fixed = ints Fo.csF ++ (.slice (some ⟨g1, 0, none⟩) Fo.ssF.length c1 :: (ints Fo.cdF ++ [.slice (some ⟨g2, 0, none⟩) Fo.sdF.length c2])) ∧ IntRow w g1 Fo.ssF ∧ IntRow w g2 Fo.sdF ∧ g1 ≠ br ∧ g1 ≠ bf ∧ g2 ≠ br ∧ g2 ≠ bf

theorem csF_len : Fo.csF.length = 16 := by decide +kernel
theorem cdF_len : Fo.cdF.length = 16 := by decide +kernel
theorem fixedOk : CodesOk Fo.fixedC := by
  refine ⟨?_, ?_, ?_, ?_⟩
  · rw [Fo.fixedC_cs, Fo.fixedC_ss]; decide +kernel
  · rw [Fo.fixedC_ss]; decide +kernel
  · rw [Fo.fixedC_cd, Fo.fixedC_sd]; decide +kernel
  · rw [Fo.fixedC_sd]; decide +kernel

theorem ints_get (l : List Nat) (i : Nat) (h : i < l.length) : (ints l)[i]? = some (.int .i64 (nth l i : Nat)) := by
  simp [ints, nth, h]

theorem Fix.codes (h : Fix w br bf fixed) : Codes4 B br bf bd off cap d most fixed window bf 4 Fo.fixedC w := by
  intro w' r ov out hf k
  obtain ⟨g1, c1, g2, c2, he, i1, i2, n1, n2, n3, n4⟩ := h.ex
  obtain ⟨p, held, left, hb, hl, hr⟩ := hf
  have j1 := i1.kept k (by simp [n1, n2])
  have j2 := i2.kept k (by simp [n3, n4])
  have hcell : ∀ i v, fixed[i]? = some v → w'.cell? ⟨bf, 4 + i, none⟩ = some v := by
    intro i v hv
    rw [cell_blk hb.blk, Nat.add_comm 4 i]
    simpa using hv
  have l1 := csF_len
  have l2 := cdF_len
  have li1 : (ints Fo.csF).length = 16 := by simpa [ints] using l1
  have li2 : (ints Fo.cdF).length = 16 := by simpa [ints] using l2
  rw [Fo.fixedC_cs, Fo.fixedC_ss, Fo.fixedC_cd, Fo.fixedC_sd]
  generalize Fo.csF = CS at *
  generalize Fo.ssF = SS at *
  generalize Fo.cdF = CD at *
  generalize Fo.sdF = SD at *
  refine ⟨⟨?_, g1, c1, ?_, j1.cell⟩, ⟨?_, g2, c2, ?_, j2.cell⟩⟩
  · intro i hi
    refine hcell i _ ?_
    rw [he, List.getElem?_append_left (by omega)]; exact ints_get _ _ (by omega)
  · refine hcell 16 _ ?_
    rw [he, List.getElem?_append_right (by omega), li1]; rfl
  · intro i hi
    rw [show 4 + 17 + i = 4 + (17 + i) by omega]
    refine hcell (17 + i) _ ?_
    rw [he, List.getElem?_append_right (by omega), li1, show 17 + i - 16 = i + 1 by omega, List.getElem?_cons_succ, List.getElem?_append_left (by omega)]; exact ints_get _ _ (by omega)
  · rw [show 4 + 17 + 16 = 4 + 33 by omega]
    refine hcell 33 _ ?_
    rw [he, List.getElem?_append_right (by omega), li1, show 33 - 16 = 16 + 1 by omega, List.getElem?_cons_succ, List.getElem?_append_right (by omega), li2]; rfl

set_option maxRecDepth 100000 in
theorem block_fixed_ok (b : Bool) (hx : Fix w br bf fixed) {rest rest' : List Bool} {out' : List Nat} (h : Fl B br bf bd off cap d most fixed w (b :: (Fo.numBits 2 1 ++ rest)) window ov out)
    (hw : window ≤ 32768) (hp : Fo.PartsTo Fo.fixedC window most rest out (.ok (rest', out'))) :
    Calls Tryd.prog 37 #[.pointer (some ⟨bf, 0, none⟩)] w fun e w' => e = .returned (.bool (!b)) ∧ ∃ ov', Fl B br bf bd off cap d most fixed w' rest' window ov' out' ∧ Kept 5 B [br, bf] w w' := by
  have HP := hide hp
  clear hp
  cases b
  all_goals
    go_enter Tryd.func37, Tryd.ntmps37
    go_wp2_with fail
    refine (bit_ok h).mono ?_
    rintro e w1 ⟨rfl, hf1, k1⟩
    simp only [Bool.toNat_false, Bool.toNat_true]
    go_wp2_with fail
    refine (bitsNum_ok 2 1 (by omega) (by omega) hf1).mono ?_
    rintro e w2 ⟨rfl, hf2, k2⟩
    go_wp2_with fail
    refine (coded_ok bf 4 Fo.fixedC fixedOk (hx.codes.kept (k1.trans k2)) hf2 hw HP.out).mono ?_
    rintro e w3 ⟨rfl, ov3, hf3, k3⟩
    go_wp2
    go_ret
    exact ⟨rfl, ov3, hf3, (k1.trans k2).trans k3⟩

set_option maxRecDepth 100000 in
theorem block_stored_ok (b : Bool) (D : List Nat) (hD0 : 0 < D.length) (hD1 : D.length ≤ 65535) (hD : ∀ i, i < D.length → nth D i < 256) {rest rest' : List Bool} (h : Fl B br bf bd off cap d most fixed w (b :: (Fo.numBits 2 0 ++ rest)) window ov out)
    (hr : rest.drop (rest.length % 8) = Fo.numBits 16 D.length ++ (Fo.numBits 16 (65535 - D.length) ++ (Fo.bitsOf D ++ rest'))) (h8 : rest'.length % 8 = 0) (ho : out.length + D.length ≤ most) :
    Calls Tryd.prog 37 #[.pointer (some ⟨bf, 0, none⟩)] w fun e w' => e = .returned (.bool (!b)) ∧ ∃ ov', Fl B br bf bd off cap d most fixed w' rest' window ov' (out ++ D) ∧ Kept 5 B [br, bf] w w' := by
  have HR := hide hr
  have H8 := hide h8
  clear hr h8
  cases b
  all_goals
    go_enter Tryd.func37, Tryd.ntmps37
    go_wp2_with fail
    refine (bit_ok h).mono ?_
    rintro e w1 ⟨rfl, hf1, k1⟩
    simp only [Bool.toNat_false, Bool.toNat_true]
    go_wp2_with fail
    refine (bitsNum_ok 2 0 (by omega) (by omega) hf1).mono ?_
    rintro e w2 ⟨rfl, hf2, k2⟩
    go_wp2_with fail
    refine (stored_ok D hD0 hD1 hD hf2 HR.out H8.out ho).mono ?_
    rintro e w3 ⟨rfl, ov3, hf3, k3⟩
    go_wp2
    go_ret
    exact ⟨rfl, ov3, hf3, (k1.trans k2).trans k3⟩
end Go.Proofs.YtgkljcmjnphpeaaDoor
