/- The smallest functions: number.Within, filters.must, text.IsWhite. -/
import Derived.Test.YtgkljcmjnphpeaaDoorProg
import Derived.WalkKit
import Derived.WalkLawsBesides
set_option linter.unusedVariables false
set_option linter.unusedSimpArgs false
namespace Go.Proofs.YtgkljcmjnphpeaaDoor
open Go.RowKit

theorem within_int (n a b : Int) (w : World) : Calls Tryd.prog 10 #[.int .i64 n, .int .i64 a, .int .i64 b] w fun e w' => e = .returned (.bool (decide (a ≤ n) && decide (n ≤ b))) ∧ w' = w := by
  go_enter Tryd.func10, Tryd.ntmps10
  go_wp2
  all_goals (go_ret; refine ⟨?_, rfl⟩)
  · rename_i h; simp [h]
  · rename_i h; simp [h]; omega
theorem within_int_yes (n a b : Int) (w : World) (h1 : a ≤ n) (h2 : n ≤ b) : Calls Tryd.prog 10 #[.int .i64 n, .int .i64 a, .int .i64 b] w fun e w' => e = .returned (.bool true) ∧ w' = w := by
  have := within_int n a b w; simpa [h1, h2] using this
theorem within_int_no (n a b : Int) (w : World) (h : n < a ∨ b < n) : Calls Tryd.prog 10 #[.int .i64 n, .int .i64 a, .int .i64 b] w fun e w' => e = .returned (.bool false) ∧ w' = w := by
  have e : (decide (a ≤ n) && decide (n ≤ b)) = false := by simp; omega
  have := within_int n a b w; rw [e] at this; exact this

theorem within_byte (n a b : Int) (w : World) : Calls Tryd.prog 54 #[.int .u8 n, .int .u8 a, .int .u8 b] w fun e w' => e = .returned (.bool (decide (a ≤ n) && decide (n ≤ b))) ∧ w' = w := by
  go_enter Tryd.func54, Tryd.ntmps54
  go_wp2
  all_goals (go_ret; refine ⟨?_, rfl⟩)
  · rename_i h; simp [h]
  · rename_i h; simp [h]; omega
theorem within_byte_yes (n a b : Int) (w : World) (h1 : a ≤ n) (h2 : n ≤ b) : Calls Tryd.prog 54 #[.int .u8 n, .int .u8 a, .int .u8 b] w fun e w' => e = .returned (.bool true) ∧ w' = w := by
  have := within_byte n a b w; simpa [h1, h2] using this
theorem within_byte_no (n a b : Int) (w : World) (h : n < a ∨ b < n) : Calls Tryd.prog 54 #[.int .u8 n, .int .u8 a, .int .u8 b] w fun e w' => e = .returned (.bool false) ∧ w' = w := by
  have e : (decide (a ≤ n) && decide (n ≤ b)) = false := by simp; omega
  have := within_byte n a b w; rw [e] at this; exact this

theorem must_yes (w : World) : Calls Tryd.prog 39 #[.bool true] w fun e w' => e = .returned (.tuple #[]) ∧ w' = w := by
  go_enter Tryd.func39, Tryd.ntmps39
  go_wp2
  go_end0
  exact ⟨rfl, rfl⟩

theorem must_no (w : World) : Calls Tryd.prog 39 #[.bool false] w fun e w' => e = .panicked [{ v := .iface 26 (.int .i64 5), recovered := false }] ∧ w' = w := by
  go_enter Tryd.func39, Tryd.ntmps39
  go_wp2
  exact ⟨rfl, rfl, rfl⟩

theorem is_white (c : Int) (w : World) : Calls Tryd.prog 75 #[.int .u8 c] w fun e w' => e = .returned (.bool (c == 0 || c == 9 || c == 10 || c == 12 || c == 13 || c == 32)) ∧ w' = w := by
  go_enter Tryd.func75, Tryd.ntmps75
  go_wp2
  all_goals (go_ret; exact ⟨by simp [*], rfl⟩)
end Go.Proofs.YtgkljcmjnphpeaaDoor
