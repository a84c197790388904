/- White: text.SkipWhite, skipWhite, nextInk, end. -/
import Derived.Test.YtgkljcmjnphpeaaDoorRd
import Derived.WalkMore
set_option linter.unusedVariables false
set_option linter.unusedSimpArgs false
namespace Go.Proofs.YtgkljcmjnphpeaaDoor
open Go.RowKit
variable {B br bd off cap : Nat} {d : List Nat} {most : Nat} {w : World} {p : Nat} {ov : Value} {out : List Nat}

def whiteB (c : Nat) : Bool := c == 0 || c == 9 || c == 10 || c == 12 || c == 13 || c == 32

theorem white_no (c : Nat) (w : World) (h : whiteB c = false) : Calls Tryd.prog 75 #[.int .u8 c] w fun e w' => e = .returned (.bool false) ∧ w' = w := by
  have e : ((c : Int) == 0 || (c : Int) == 9 || (c : Int) == 10 || (c : Int) == 12 || (c : Int) == 13 || (c : Int) == 32) = false := by
    simp [whiteB] at h ⊢; omega
  have := is_white c w
  rw [e] at this
  exact this

theorem skip_ink (h : Rd B br bd off cap d most w p ov out) (hp : p < d.length) (hw : whiteB (nth d p) = false) :
    Calls Tryd.prog 51 #[.slice (some ⟨bd, off, none⟩) d.length cap, .int .i64 p] w fun e w' => e = .returned (.int .i64 p) ∧ w' = w := by
  have hd := h.dat p hp
  have b1 := h.cp
  have b2 := h.lc
  go_enter Tryd.func51, Tryd.ntmps51
  go_wp2
  go_step3
  go_wp2
  go_step3
  go_wp2_with (go_at_call 75; refine (white_no _ _ hw).mono ?_; rintro e w' ⟨rfl, rfl⟩)
  try rw [Exit.noGoto_ret]
  go_ret
  exact ⟨rfl, rfl⟩
theorem skip_end (h : Rd B br bd off cap d most w d.length ov out) :
    Calls Tryd.prog 51 #[.slice (some ⟨bd, off, none⟩) d.length cap, .int .i64 d.length] w fun e w' => e = .returned (.int .i64 d.length) ∧ w' = w := by
  have b1 := h.cp
  have b2 := h.lc
  go_enter Tryd.func51, Tryd.ntmps51
  go_wp2
  go_step3
  go_wp2
  go_step3
  go_wp2
  try rw [Exit.noGoto_ret]
  go_ret
  exact ⟨rfl, rfl⟩

theorem skipWhite_of (h : Rd B br bd off cap d most w p ov out) (q : Nat) (hq : q ≤ d.length)
    (hc : Calls Tryd.prog 51 #[.slice (some ⟨bd, off, none⟩) d.length cap, .int .i64 p] (w.drewN 1) fun e w' => e = .returned (.int .i64 q) ∧ w' = w.drewN 1) :
    Calls Tryd.prog 31 #[.pointer (some ⟨br, 0, none⟩)] w fun e w' => e = .returned (.tuple #[]) ∧ Rd B br bd off cap d most w' q ov out ∧ Kept 5 B [br] w w' := by
  have c0 := h.c0
  have c1 := h.c1
  have f1 := h.fz 1
  go_enter Tryd.func31, Tryd.ntmps31
  go_wp2_with fail
  go_region_with (go_at_call 51; refine hc.mono ?_; rintro e w' ⟨rfl, rfl⟩)
  all_goals go_wp2
  all_goals go_end0
  all_goals exact ⟨rfl, (h.drewN 1).set1 q hq, ((Kept.refl _ _ _ _).drewN 1).setCell (by simp) _⟩
theorem skipWhite_ink (h : Rd B br bd off cap d most w p ov out) (hp : p < d.length) (hw : whiteB (nth d p) = false) :
    Calls Tryd.prog 31 #[.pointer (some ⟨br, 0, none⟩)] w fun e w' => e = .returned (.tuple #[]) ∧ Rd B br bd off cap d most w' p ov out ∧ Kept 5 B [br] w w' :=
  skipWhite_of h p h.lp (skip_ink (h.drewN 1) hp hw)
theorem skipWhite_end (h : Rd B br bd off cap d most w d.length ov out) :
    Calls Tryd.prog 31 #[.pointer (some ⟨br, 0, none⟩)] w fun e w' => e = .returned (.tuple #[]) ∧ Rd B br bd off cap d most w' d.length ov out ∧ Kept 5 B [br] w w' :=
  skipWhite_of h d.length (Nat.le_refl _) (skip_end (h.drewN 1))

theorem nextInk_ok (h : Rd B br bd off cap d most w p ov out) (hp : p < d.length) (hw : whiteB (nth d p) = false) :
    Calls Tryd.prog 48 #[.pointer (some ⟨br, 0, none⟩)] w fun e w' => e = .returned (.int .u8 (nth d p : Nat)) ∧ Rd B br bd off cap d most w' (p + 1) ov out ∧ Kept 5 B [br] w w' := by
  go_enter Tryd.func48, Tryd.ntmps48
  go_wp2_with (first | (go_at_call 31; refine (skipWhite_ink h hp hw).mono ?_; rintro e w1 ⟨rfl, h1, k1⟩) | (go_at_call 52; refine (next_ok h1 hp).mono ?_; rintro e w2 ⟨rfl, h2, k2⟩))
  go_ret
  exact ⟨rfl, h2, k1.trans k2⟩

theorem end_ok (h : Rd B br bd off cap d most w d.length ov out) :
    Calls Tryd.prog 32 #[.pointer (some ⟨br, 0, none⟩)] w fun e w' => e = .returned (.tuple #[]) ∧ ∃ q, w' = w.drewN q := by
  have c0 := h.c0
  have c1 := h.c1
  go_enter Tryd.func32, Tryd.ntmps32
  go_wp2_with fail
  go_quiet ((go_at_call 39; exact Calls.quiet_of_same (must_yes _)))
  go_wp2
  go_end0
  exact ⟨rfl, _, rfl⟩
end Go.Proofs.YtgkljcmjnphpeaaDoor
