/- The two bytes ahead of the blocks: inflater.head. -/
import Derived.Test.YtgkljcmjnphpeaaDoorFixedC
set_option linter.unusedVariables false
set_option linter.unusedSimpArgs false
namespace Go.Proofs.YtgkljcmjnphpeaaDoor
open Go.RowKit
variable {B br bf bd off cap : Nat} {d : List Nat} {most : Nat} {fixed : List Value} {w : World} {p held left window : Nat} {ov : Value} {out : List Nat}

theorem Bi.set3 (h : Bi B br bf bd off cap d most fixed w p held left window ov out) (x : Nat) : Bi B br bf bd off cap d most fixed (w.setCell ⟨bf, 3, none⟩ (.int .i64 x)) p held left x ov out := by
  refine ⟨h.rd.setOther _ h.hbf h.ne h.own_ne, h.hbf, ?_, h.hh, h.hl⟩
  rw [blk_setCell _ h.blk]; simp

theorem or_head : bits .or .i64 (30720 : Int) 156 = 30876 := by decide +kernel
theorem and_head1 : bits .and .i64 (120 : Int) 15 = 8 := by decide +kernel
theorem and_head2 : bits .and .i64 (156 : Int) 32 = 0 := by decide +kernel

set_option maxRecDepth 100000 in
set_option maxHeartbeats 1000000 in
theorem head_ok (h : Bi B br bf bd off cap d most fixed w 0 held left window ov out) (hl : 2 ≤ d.length) (d0 : nth d 0 = 120) (d1 : nth d 1 = 156) :
    Calls Tryd.prog 36 #[.pointer (some ⟨bf, 0, none⟩)] w fun e w' => e = .returned (.tuple #[]) ∧ Bi B br bf bd off cap d most fixed w' 2 held left 32768 ov out ∧ Kept 5 B [br, bf] w w' := by
  have c0 := h.c0
  have tok : True := trivial
  have D0 := hide d0
  have D1 := hide d1
  clear d0 d1
  have o1 := or_head
  have o2 := and_head1
  have o3 := and_head2
  go_enter Tryd.func36, Tryd.ntmps36
  go_wp2_with fail
  go_region_with (first | (go_at_call 52; have _t := tok; refine (next_ok (h.rd.drewN 1) (by omega)).mono ?_; rintro e w1 ⟨rfl, r1, k1⟩; have h1 := h.rdKept r1 (((Kept.refl _ _ _ _).drewN 1).trans k1); have c1 := h1.c0; clear tok) | (go_at_call 52; refine (next_ok r1 (by omega)).mono ?_; rintro e w2 ⟨rfl, r2, k2⟩; have h2 := h1.rdKept r2 k2; have c2 := h2.c0; have c3 := h2.c3; have f3 := h2.fz 3))
  all_goals (have kk : Kept 5 B [br, bf] w w2 := ((Kept.refl _ _ _ _).drewN 1).trans ((k1.trans k2).mono (by simp)))
  all_goals (clear k1 k2)
  all_goals (simp only [D0.out, D1.out, Nat.zero_add])
  all_goals (go_wp2_with (first | (go_at_call 10; refine (within_int_yes _ _ _ _ (by omega) (by omega)).mono ?_; rintro e w' ⟨rfl, rfl⟩) | (go_at_call 39; refine (must_yes _).mono ?_; rintro e w' ⟨rfl, rfl⟩)))
  all_goals go_end0
  all_goals exact ⟨rfl, h2.set3 32768, kk.setCell (by simp) _⟩
end Go.Proofs.YtgkljcmjnphpeaaDoor
