/- What Decode answers to what Turned hands it. -/
import Derived.Test.YtgkljcmjnphpeaaDoorEnc
import Derived.Test.YtgkljcmjnphpeaaDoorPick
import Derived.Test.YtgkljcmjnphpeaaDoorOpd
set_option linter.unusedVariables false
set_option linter.unusedSimpArgs false
namespace Go.Proofs.YtgkljcmjnphpeaaDoor
open Go.RowKit

theorem flOut_len (data bl : List Nat) : (flOut data bl).length = bl.length + 6 := by simp [flOut, sum4]
theorem flOut_set (data bl : List Nat) (j y : Nat) (hj : j < 4) : (flOut data bl).set (bl.length + 2 + j) y = [120, 156] ++ (bl ++ (sum4 data).set j y) := by
  unfold flOut
  rw [List.append_assoc, List.set_append_right _ _ (by simp; omega), List.set_append_right _ _ (by simp; omega)]
  congr 2
  congr 1
  simp; omega
theorem flOut_nth (data bl : List Nat) (j : Nat) (hj : j < 4) : nth (flOut data bl) (bl.length + 2 + j) = nth (sum4 data) j := by
  unfold flOut nth
  rw [List.getD_eq_getElem?_getD, List.getElem?_append_right (by simp <;> omega), List.getD_eq_getElem?_getD]
  congr 2
  simp <;> omega
theorem set_ne {l : List Nat} {j y : Nat} (hj : j < l.length) (h : y ≠ nth l j) : l.set j y ≠ l := by
  intro e
  apply h
  have : nth (l.set j y) j = y := by simp [nth, hj]
  rw [e] at this
  exact this.symm

theorem xor_byte : ∀ (x : Fin 256) (j : Fin 8), bits .xor .u8 (x.val : Int) (2 ^ j.val) = ((x.val ^^^ 2 ^ j.val : Nat) : Int) ∧ x.val ^^^ 2 ^ j.val < 256 ∧ x.val ^^^ 2 ^ j.val ≠ x.val := by decide +kernel

/-- Which digit stands at a place. -/
def nib (l : List Nat) (i : Nat) : Nat := if i % 2 = 0 then nth l (i / 2) / 16 else nth l (i / 2) % 16
/-- A byte with that digit another. -/
def nibSet (l : List Nat) (i z : Nat) : List Nat := l.set (i / 2) (if i % 2 = 0 then z * 16 + nth l (i / 2) % 16 else nth l (i / 2) / 16 * 16 + z)

theorem hex_nth : ∀ (l : List Nat) (i : Nat), i < 2 * l.length → nth (Fo.hexOf l ++ [62]) i = Fo.hexDig (nib l i)
  | [], i, h => by simp at h
  | b :: l, i, h => by
    rw [Fo.hexOf_cons]
    match i, h with
    | 0, _ => rfl
    | 1, _ => rfl
    | i + 2, h =>
      have := hex_nth l i (by simp at h; omega)
      show nth (Fo.hexOf l ++ [62]) i = _
      rw [this]
      unfold nib
      rw [show (i + 2) % 2 = i % 2 by omega, show (i + 2) / 2 = i / 2 + 1 by omega]
      rfl
theorem hex_set : ∀ (l : List Nat) (i z : Nat), i < 2 * l.length → z < 16 → (∀ x ∈ l, x < 256) → (Fo.hexOf l ++ [62]).set i (Fo.hexDig z) = Fo.hexOf (nibSet l i z) ++ [62]
  | [], i, z, h, _, _ => by simp at h
  | b :: l, i, z, h, hz, hb => by
    rw [Fo.hexOf_cons]
    match i, h with
    | 0, _ =>
      have e1 : (z * 16 + b % 16) / 16 = z := by omega
      have e2 : (z * 16 + b % 16) % 16 = b % 16 := by omega
      show Fo.hexDig z :: Fo.hexDig (b % 16) :: (Fo.hexOf l ++ [62]) = Fo.hexOf ((z * 16 + b % 16) :: l) ++ [62]
      rw [Fo.hexOf_cons, e1, e2]; rfl
    | 1, _ =>
      have e1 : (b / 16 * 16 + z) / 16 = b / 16 := by omega
      have e2 : (b / 16 * 16 + z) % 16 = z := by omega
      show Fo.hexDig (b / 16) :: Fo.hexDig z :: (Fo.hexOf l ++ [62]) = Fo.hexOf ((b / 16 * 16 + z) :: l) ++ [62]
      rw [Fo.hexOf_cons, e1, e2]; rfl
    | i + 2, h =>
      have := hex_set l i z (by simp at h; omega) hz (fun x hx => hb x (by simp [hx]))
      have e : nibSet (b :: l) (i + 2) z = b :: nibSet l i z := by
        unfold nibSet
        rw [show (i + 2) % 2 = i % 2 by omega, show (i + 2) / 2 = i / 2 + 1 by omega]
        rfl
      show Fo.hexDig (b / 16) :: Fo.hexDig (b % 16) :: (Fo.hexOf l ++ [62]).set i (Fo.hexDig z) = _
      rw [this, e, Fo.hexOf_cons]; rfl
theorem nib_lt (l : List Nat) (i : Nat) (h : i < 2 * l.length) (hb : ∀ k, k < l.length → nth l k < 256) : nib l i < 16 := by
  have := hb (i / 2) (by omega)
  unfold nib
  split <;> omega
theorem nibSet_len (l : List Nat) (i z : Nat) : (nibSet l i z).length = l.length := by simp [nibSet]
theorem nibSet_ne (l : List Nat) (i z : Nat) (h : i < 2 * l.length) (hz : z < 16) (hne : z ≠ nib l i) : nibSet l i z ≠ l := by
  unfold nibSet
  refine set_ne (by omega) ?_
  unfold nib at hne
  split
  · rename_i c
    rw [if_pos c] at hne; omega
  · rename_i c
    rw [if_neg c] at hne; omega
theorem nibSet_lt (l : List Nat) (i z : Nat) (hz : z < 16) (hb : ∀ k, k < l.length → nth l k < 256) : ∀ k, k < (nibSet l i z).length → nth (nibSet l i z) k < 256 := by
  intro k hk
  rw [nibSet_len] at hk
  have h1 := hb k hk
  unfold nibSet
  by_cases c : i / 2 = k
  · subst c
    have e : ∀ v, nth (l.set (i / 2) v) (i / 2) = v := fun v => by simp [nth, hk]
    rw [e]
    split <;> omega
  · have e : ∀ v, nth (l.set (i / 2) v) k = nth l k := fun v => by simp [nth, List.getElem?_set_ne c]
    rw [e]; exact h1
end Go.Proofs.YtgkljcmjnphpeaaDoor
namespace Go.Proofs.YtgkljcmjnphpeaaDoor
open Go.RowKit
variable {w : World} {B g c : Nat}

theorem nth_append_lt {a b : List Nat} (ha : ∀ x ∈ a, x < 256) (hb : ∀ x ∈ b, x < 256) : ∀ i, i < (a ++ b).length → nth (a ++ b) i < 256 := by
  intro i hi
  have hm : nth (a ++ b) i ∈ a ++ b := nth_mem hi
  rcases List.mem_append.1 hm with h | h
  · exact ha _ h
  · exact hb _ h

theorem dec4_turned (data bl t : List Nat) (hP : Packed data bl) (ht4 : t.length = 4) (htb : ∀ x ∈ t, x < 256) (hne : t ≠ sum4 data) (hdb : ∀ i, i < data.length → nth data i < 256) (hbb : ∀ x ∈ bl, x < 256) (hl : data.length ≤ 65535) (hbl : bl.length ≤ 100000) (hg : g < w.heap.size)
    (hcell : ∀ i, i < ([120, 156] ++ (bl ++ t)).length → w.cell? ⟨g, i, none⟩ = some (.int .u8 (nth ([120, 156] ++ (bl ++ t)) i : Nat))) (hc : bl.length + 6 ≤ c) (hc2 : c ≤ 9223372036854775807) :
    Calls Tryd.prog 8 #[.int .i64 4, .slice (some ⟨g, 0, none⟩) (bl.length + 6) c, .int .i64 data.length] w fun e w' => e = .returned (.tuple #[.slice none 0 0, .int .i64 5]) ∧ Below w.heap.size w w' := by
  have hlen : ([120, 156] ++ (bl ++ t)).length = bl.length + 6 := by simp [ht4]
  have hbyt : ∀ i, i < ([120, 156] ++ (bl ++ t)).length → nth ([120, 156] ++ (bl ++ t)) i < 256 := by
    refine nth_append_lt (by simp) ?_
    intro x hx
    rcases List.mem_append.1 hx with h | h
    · exact hbb x h
    · exact htb x h
  obtain ⟨r, hbk, hr⟩ := hP.to data.length t (Nat.le_refl _)
  rw [← hlen] at hc ⊢
  refine decode_panics 4 (by omega) g 0 c ([120, 156] ++ (bl ++ t)) data.length (by omega) (by omega) 5 ?_
  intro W hb hsz
  refine fdec4_bad (by omega) (fun i hi => ?_) hbyt hc hc2 (by omega) (by omega) rfl rfl (by simpa using hbk) t ht4 (fun i hi => ?_) hr hne hdb
  · rw [Nat.zero_add]
    exact (hb.cell (p := ⟨g, i, none⟩) hg).trans (hcell i hi)
  · exact htb _ (nth_mem (by omega))

theorem dec1_other (l : List Nat) (hlb : ∀ i, i < l.length → nth l i < 256) (hl : l.length ≤ 65535) (hg : g < w.heap.size)
    (hcell : ∀ i, i < (Fo.hexOf l ++ [62]).length → w.cell? ⟨g, i, none⟩ = some (.int .u8 (nth (Fo.hexOf l ++ [62]) i : Nat))) (hc : 2 * l.length + 1 ≤ c) (hc2 : c ≤ 9223372036854775807) :
    Calls Tryd.prog 8 #[.int .i64 1, .slice (some ⟨g, 0, none⟩) (2 * l.length + 1) c, .int .i64 l.length] w fun e w' => ∃ v, e = .returned (.tuple #[v, .int .i64 0]) ∧ w'.ownsRow w.heap.size 5 1 v l.length (l.map fun x : Nat => .int .u8 (x : Int)) ∧ Below w.heap.size w w' := by
  have hlen : (Fo.hexOf l ++ [62]).length = 2 * l.length + 1 := by simp [Fo.hexOf_length]
  have hbyt : ∀ i, i < (Fo.hexOf l ++ [62]).length → nth (Fo.hexOf l ++ [62]) i < 256 := by
    intro i hi
    rw [hlen] at hi
    by_cases h2 : i < 2 * l.length
    · rw [hex_nth l i h2]
      exact Fo.hexDig_lt _ (nib_lt l i h2 hlb)
    · have e : i = (Fo.hexOf l).length := by rw [Fo.hexOf_length]; omega
      have : nth (Fo.hexOf l ++ [62]) i = 62 := by rw [e]; simp [nth]
      omega
  rw [← hlen] at hc ⊢
  refine decode_returns 1 (by omega) g 0 c (Fo.hexOf l ++ [62]) l.length (by omega) (by omega) l ?_
  intro W hb hsz
  refine fdec1_ok (by omega) (fun i hi => ?_) hbyt hc hc2 (by omega) l hlb rfl (Nat.le_refl _)
  rw [Nat.zero_add]
  exact (hb.cell (p := ⟨g, i, none⟩) hg).trans (hcell i hi)
end Go.Proofs.YtgkljcmjnphpeaaDoor
