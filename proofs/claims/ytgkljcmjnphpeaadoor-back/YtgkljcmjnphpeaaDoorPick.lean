/- foliokeep.pick, foliokeep.position. -/
import Derived.Test.YtgkljcmjnphpeaaDoorSpan
import Derived.Test.YtgkljcmjnphpeaaDoorHexE
set_option linter.unusedVariables false
set_option linter.unusedSimpArgs false
namespace Go.Proofs.YtgkljcmjnphpeaaDoor
open Go.RowKit
variable {w : World}

theorem pick_ok (c : Int) (h1 : -9223372036854775808 ≤ c) (h2 : c ≤ 9223372036854775807) (n : Nat) (hn : 0 < n) (hn2 : n ≤ 1000000) (w : World) : Calls Tryd.prog 6 #[.int .i64 c, .int .i64 n] w fun e w' => ∃ r : Nat, r < n ∧ e = .returned (.int .i64 r) ∧ w' = w := by
  have key : ∀ a : Int, 0 ≤ a → a ≤ 9223372036854775807 → ∃ r : Nat, r < n ∧ Int.tmod a n = r ∧ a % n = r := by
    intro a ha hb
    obtain ⟨m, rfl⟩ := Int.eq_ofNat_of_zero_le ha
    refine ⟨m % n, Nat.mod_lt _ hn, ?_, ?_⟩
    · rw [Int.tmod_eq_emod_of_nonneg (by omega)]; rfl
    · rfl
  by_cases hc : c < 0
  · obtain ⟨r, r1, r2, r3⟩ := key (-(c + 1)) (by omega) (by omega)
    have R := hide r2
    have R3 := hide r3
    clear key r2 r3
    go_enter Tryd.func6, Tryd.ntmps6
    go_wp2
    go_ret
    have e := R.out
    rw [Int.neg_tmod] at e
    exact ⟨r, r1, ret_int e, rfl⟩
  · obtain ⟨r, r1, r2, r3⟩ := key c (by omega) (by omega)
    have R := hide r2
    have R3 := hide r3
    clear key r2 r3
    go_enter Tryd.func6, Tryd.ntmps6
    go_wp2
    go_ret
    exact ⟨r, r1, ret_int R3.out, rfl⟩

theorem hexDig_inj (a b : Nat) (ha : a < 16) (hb : b < 16) (h : Fo.hexDig a = Fo.hexDig b) : a = b := by
  unfold Fo.hexDig at h
  split at h <;> split at h <;> omega

theorem position_ok (i : Nat) (hi : i < 16) (w : World) : Calls Tryd.prog 9 #[.int .u8 (Fo.hexDig i : Nat)] w fun e w' => e = .returned (.int .i64 i) ∧ w' = w := by
  go_enter Tryd.func9, Tryd.ntmps9
  go_wp2
  go_loopw [3] (fun j wr => ∃ k : Nat, k ≤ i ∧ j = .int .i64 k ∧ wr = w) (fun j _ => 16 - (intOf j).toNat)
  case atStart => exact ⟨0, by omega, rfl, rfl⟩
  case round =>
    obtain ⟨k, hk, rfl, rfl⟩ := hrel
    have hk16 : k < 16 := by omega
    have hlit := hexLit k hk16 (by show k < 16; omega)
    by_cases hc : k = i
    · subst hc
      go_wp2
      go_ret
      exact ⟨rfl, rfl⟩
    · have hne : ((Fo.hexDig k : Int) == (Fo.hexDig i : Int)) = false := by
        simp only [beq_eq_false_iff_ne, ne_eq]
        intro e
        exact hc (hexDig_inj k i hk16 hi (by omega))
      go_wp2
      go_roundw
      case rel => exact ⟨k + 1, by omega, by go_num, trivial⟩
      case measure => simp [intOf]; omega
end Go.Proofs.YtgkljcmjnphpeaaDoor
