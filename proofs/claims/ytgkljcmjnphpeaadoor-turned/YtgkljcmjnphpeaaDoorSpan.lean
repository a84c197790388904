/- What symbols stand for: lengthSpan, distanceSpan, lengthSymbol, distanceSymbol; within. -/
import Derived.Test.YtgkljcmjnphpeaaDoorSym
namespace Go.Proofs.YtgkljcmjnphpeaaDoor
open Go.RowKit
variable {B br bf bd off cap : Nat} {d : List Nat} {most : Nat} {fixed : List Value} {w : World} {p held left window : Nat} {ov : Value} {out : List Nat}

theorem ret_int {k : IntKind} {a b : Int} (h : a = b) : Ending.returned (.int k a) = .returned (.int k b) := by rw [h]

def spanVal (x : Nat × Nat) : Value := .agg #[.int .i64 (x.1 : Nat), .int .i64 (x.2 : Nat)]

theorem len_val : ∀ s : Fin 286, 265 ≤ s.val → s.val ≠ 285 → wrap64 (3 + wrap64 ((4 + ((s.val : Int) - 257) % 4) * 2 ^ ((s.val - 257) / 4 - 1))) = ((Fo.lenSpan s.val).1 : Nat) ∧ ((s.val : Int) - 257) / 4 - 1 = ((Fo.lenSpan s.val).2 : Nat) := by decide +kernel

theorem lengthSpan_ok (s : Nat) (h1 : 257 ≤ s) (h2 : s ≤ 285) (w : World) : Calls Tryd.prog 69 #[.int .i64 s] w fun e w' => e = .returned (spanVal (Fo.lenSpan s)) ∧ ∃ o, w' = w.alloc o := by
  by_cases c1 : s = 285
  · subst c1
    go_enter Tryd.func69, Tryd.ntmps69
    go_wp2
    refine bodyPost_ret (v := spanVal (Fo.lenSpan 285)) (by simp [results, Tryd.results69, go_sem, spanVal, Fo.lenSpan]) rfl ⟨rfl, ?_⟩
    exact ⟨_, rfl⟩
  have e1 : ((s : Int) == 285) = false := by simp; omega
  by_cases c2 : s - 257 < 8
  · have c3 : (s : Int) - 257 < 8 := by omega
    go_enter Tryd.func69, Tryd.ntmps69
    go_wp2
    refine bodyPost_ret (v := spanVal (Fo.lenSpan s)) ?_ rfl ⟨rfl, ?_⟩
    · simp [results, Tryd.results69, go_sem, spanVal, Fo.lenSpan, c1, c2]; omega
    · exact ⟨_, rfl⟩
  · have c3 : ¬ (s : Int) - 257 < 8 := by omega
    have g1 : 0 ≤ ((s : Int) - 257) / 4 - 1 := by omega
    have g2 : ((s : Int) - 257) / 4 - 1 < 6 := by omega
    go_enter Tryd.func69, Tryd.ntmps69
    go_wp2
    obtain ⟨v1, v2⟩ := len_val ⟨s, by omega⟩ (by show 265 ≤ s; omega) c1
    simp only [] at v1 v2
    refine bodyPost_ret (v := spanVal (Fo.lenSpan s)) ?_ rfl ⟨rfl, ?_⟩
    · simp [results, Tryd.results69, go_sem, spanVal, v1, v2]
    · exact ⟨_, rfl⟩

theorem dist_val : ∀ s : Fin 30, 4 ≤ s.val → wrap64 (1 + wrap64 ((2 + (s.val : Int) % 2) * 2 ^ (s.val / 2 - 1))) = ((Fo.distSpan s.val).1 : Nat) ∧ (s.val : Int) / 2 - 1 = ((Fo.distSpan s.val).2 : Nat) := by decide +kernel

theorem distanceSpan_ok (s : Nat) (h2 : s ≤ 29) (w : World) : Calls Tryd.prog 71 #[.int .i64 s] w fun e w' => e = .returned (spanVal (Fo.distSpan s)) ∧ ∃ o, w' = w.alloc o := by
  by_cases c1 : s < 4
  · have c3 : (s : Int) < 4 := by omega
    go_enter Tryd.func71, Tryd.ntmps71
    go_wp2
    refine bodyPost_ret (v := spanVal (Fo.distSpan s)) ?_ rfl ⟨rfl, ?_⟩
    · simp [results, Tryd.results71, go_sem, spanVal, Fo.distSpan, c1]
    · exact ⟨_, rfl⟩
  · have c3 : ¬ (s : Int) < 4 := by omega
    have g1 : 0 ≤ (s : Int) / 2 - 1 := by omega
    have g2 : (s : Int) / 2 - 1 < 14 := by omega
    go_enter Tryd.func71, Tryd.ntmps71
    go_wp2
    obtain ⟨v1, v2⟩ := dist_val ⟨s, by omega⟩ (by show 4 ≤ s; omega)
    simp only [] at v1 v2
    refine bodyPost_ret (v := spanVal (Fo.distSpan s)) ?_ rfl ⟨rfl, ?_⟩
    · simp [results, Tryd.results71, go_sem, spanVal, v1, v2]
    · exact ⟨_, rfl⟩

/-- which number of a span is meant -/
theorem within_ok (x : Nat × Nat) (hx : x.2 ≤ 15) (hx1 : x.1 ≤ 100000) {rest : List Bool} (hr : x.2 ≤ rest.length) (h : Fl B br bf bd off cap d most fixed w rest window ov out) :
    Calls Tryd.prog 84 #[.pointer (some ⟨bf, 0, none⟩), spanVal x] w fun e w' => e = .returned (.int .i64 (x.1 + Fo.val (rest.take x.2) : Nat)) ∧ Fl B br bf bd off cap d most fixed w' (rest.drop x.2) window ov out ∧ Kept 5 B [br, bf] w w' := by
  unfold spanVal
  obtain ⟨l1, l2, l3, l4⟩ := h.lt
  have hv := Fo.val_lt (rest.take x.2)
  rw [List.length_take, Nat.min_eq_left hr] at hv
  have hp : 2 ^ x.2 ≤ 2 ^ 15 := Nat.pow_le_pow_right (by omega) hx
  have hbig : Fo.val (rest.take x.2) < 32768 := by omega
  clear hv hp
  go_enter Tryd.func84, Tryd.ntmps84
  go_wp2_with fail
  go_region_with (go_at_call 59; refine (bits_ok x.2 (by omega) hr ((h.alloc (.cells #[.int .i64 (x.1 : Nat), .int .i64 (x.2 : Nat)] 98)).drew)).mono ?_; rintro e w1 ⟨rfl, hf1, k1⟩; have hbox := k1.block w.heap.size _ (by simp; omega) (show (w.alloc (.cells #[.int .i64 (x.1 : Nat), .int .i64 (x.2 : Nat)] 98)).drew.heap[w.heap.size]? = _ from blk_new _ _) (Or.inr (by intro c fz e; simp at e)); have hb0 : w1.cell? ⟨w.heap.size, 0, none⟩ = some (.int .i64 (x.1 : Nat)) := (by rw [cell_blk hbox]; rfl))
  all_goals (have kk := (((Kept.refl 5 B [br, bf] w).alloc (.cells #[.int .i64 (x.1 : Nat), .int .i64 (x.2 : Nat)] 98)).drew).trans k1; clear k1 hbox hb0)
  all_goals go_wp2
  all_goals go_ret
  all_goals exact ⟨ret_int (by first | (rw [IntKind.wrap_i64]; omega) | omega), hf1, kk⟩
end Go.Proofs.YtgkljcmjnphpeaaDoor
