/- The sum behind the blocks. -/
import Derived.Test.YtgkljcmjnphpeaaDoorRd
set_option linter.unusedVariables false
set_option linter.unusedSimpArgs false
namespace Go.Proofs.YtgkljcmjnphpeaaDoor
open Go.RowKit
variable {B : Nat} {w : World}

def sumAB (l : List Nat) : Nat × Nat := l.foldl (fun s d => ((s.1 + d) % 65521, (s.2 + (s.1 + d) % 65521) % 65521)) (1, 0)
def sum4 (l : List Nat) : List Nat := [(sumAB l).2 / 256, (sumAB l).2 % 256, (sumAB l).1 / 256, (sumAB l).1 % 256]

theorem sumAB_lt (l : List Nat) : (sumAB l).1 < 65521 ∧ (sumAB l).2 < 65521 := by
  unfold sumAB
  suffices h : ∀ (l : List Nat) (s : Nat × Nat), s.1 < 65521 ∧ s.2 < 65521 → (l.foldl (fun s d => ((s.1 + d) % 65521, (s.2 + (s.1 + d) % 65521) % 65521)) s).1 < 65521 ∧ (l.foldl (fun s d => ((s.1 + d) % 65521, (s.2 + (s.1 + d) % 65521) % 65521)) s).2 < 65521 from h l _ ⟨by decide, by decide⟩
  intro l
  induction l with
  | nil => intro s h; exact h
  | cons d l ih => intro s _; exact ih _ ⟨Nat.mod_lt _ (by decide), Nat.mod_lt _ (by decide)⟩
theorem sumAB_snoc (l : List Nat) (d : Nat) : sumAB (l ++ [d]) = (((sumAB l).1 + d) % 65521, ((sumAB l).2 + ((sumAB l).1 + d) % 65521) % 65521) := by
  simp [sumAB]
theorem sum4_lt (l : List Nat) : ∀ x ∈ sum4 l, x < 256 := by
  have := sumAB_lt l
  intro x hx
  simp [sum4] at hx
  omega

def sumVal (l : List Nat) : Value := .agg #[.int .u8 ((sumAB l).2 / 256 : Nat), .int .u8 ((sumAB l).2 % 256 : Nat), .int .u8 ((sumAB l).1 / 256 : Nat), .int .u8 ((sumAB l).1 % 256 : Nat)]

set_option maxHeartbeats 400000 in
theorem sum_ok (ao : Option Addr) (cap : Nat) (l : List Nat) (hB : B ≤ w.heap.size) (hdat : Dat w B ao l) (hl : l.length ≤ 1000000000) (hb : ∀ i, i < l.length → nth l i < 256) :
    Calls Tryd.prog 29 #[.slice ao l.length cap] w fun e w' => e = .returned (sumVal l) ∧ ∃ o, w' = w.alloc o := by
  go_enter Tryd.func29, Tryd.ntmps29
  go_wp2
  go_loop [3, 4, 9] (fun a b i => ∃ k : Nat, k ≤ l.length ∧ i = .int .i64 k ∧ a = .int .i64 (sumAB (l.take k)).1 ∧ b = .int .i64 (sumAB (l.take k)).2) (fun _ _ i => l.length - (intOf i).toNat)
  case atStart => exact ⟨0, Nat.zero_le _, rfl, rfl, rfl⟩
  case round =>
    obtain ⟨k, hk, rfl, rfl, rfl⟩ := hrel
    have hs := sumAB_lt (l.take k)
    by_cases hlt : k < l.length
    · obtain ⟨bd, off, rfl, hbd, hc0⟩ := hdat k hlt
      have hc : (w.alloc (.cells #[.int .u8 0, .int .u8 0, .int .u8 0, .int .u8 0] 43)).cell? ⟨bd, off + k, none⟩ = some (.int .u8 (nth l k : Nat)) := by rw [World.cell?_alloc_lt _ _ _ (by show bd < _; omega)]; exact hc0
      have hx := hb k hlt
      have hsn := hide (sumAB_snoc (l.take k) (nth l k))
      have hts : Hid (l.take (k + 1) = l.take k ++ [nth l k]) := by rw [List.take_succ_eq_append_getElem hlt]; simp [nth, hlt, Hid]
      generalize hA : (sumAB (l.take k)).1 = A at *
      generalize hBB : (sumAB (l.take k)).2 = BB at *
      have HA := hide hA
      have HB := hide hBB
      clear hA hBB
      go_wp2
      go_round
      case rel =>
        refine ⟨k + 1, by omega, by go_num, ?_, ?_⟩
        · rw [hts.out, hsn.out]
          simp
        · rw [hts.out, hsn.out]
          simp
      case measure => simp [intOf]; omega
    · obtain rfl : k = l.length := by omega
      rw [List.take_length] at hs ⊢
      generalize hA : (sumAB l).1 = A at *
      generalize hBB : (sumAB l).2 = BB at *
      have HA := hide hA
      have HB := hide hBB
      clear hA hBB
      go_wp2
      refine bodyPost_ret (v := sumVal l) (by simp [results, Tryd.results29, go_sem, sumVal, HA.out, HB.out]) rfl ⟨rfl, ?_⟩
      exact ⟨_, rfl⟩
end Go.Proofs.YtgkljcmjnphpeaaDoor
