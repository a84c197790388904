/- Loose: white and comments say nothing (package foliokeep). -/
import Derived.Test.YtgkljcmjnphpeaaGreatDoorX01
import Derived.Test.YtgkljcmjnphpeaaGreatDoorRows
import Derived.Test.YtgkljcmjnphpeaaGreatDoorCards
import Derived.ProofKit
import Derived.Stop.Joined
import Derived.SevenTiedAt
import Derived.Deep.CutRange
import Derived.Deep.RegionWith
set_option linter.unusedVariables false
set_option linter.unusedSimpArgs false
namespace Go.Proofs.YtgkljcmjnphpeaaGreatDoor
open Go.RowKit
variable {w w' w0 : World}
set_option maxRecDepth 100000 in
set_option maxHeartbeats 8000000 in
theorem loose_ok {ra : Option Addr} {rl rcap : Nat} (he : Env w.heap.size w) (hrl : rl ≤ 9223372036854775807) (wh kk : Int) (hw1 : -9223372036854775808 ≤ wh) (hw2 : wh ≤ 9223372036854775807) (hk1 : -9223372036854775808 ≤ kk) (hk2 : kk ≤ 9223372036854775807) :
    Calls Tryz.prog 9 #[.slice ra rl rcap, .int .i64 wh, .int .i64 kk] w fun e w' => e = .returned (.bool true) ∧ Below w.heap.size w w' := by
  have HE := hide he
  clear he
  go_enter Tryz.func9, Tryz.ntmps9
  go_wp2_with fail
  refine (opened_ok w).mono ?_
  rintro e w1 ⟨rfl, b1⟩
  have B1 := hide b1
  clear b1
  go_wp2_with fail
  refine (pick_ok (rl : Int) (by omega) (by omega) 5 (by decide) (by decide) _).mono ?_
  rintro e w2 ⟨r5, hr5, rfl, hw⟩
  have hw := hw.symm
  subst hw
  have hr5w : IntKind.i64.wrap (1 + (r5 : Int)) = ((1 + r5 : Nat) : Int) := by rw [IntKind.wrap_i64]; omega
  go_wp2_with fail
  refine (pick_ok (1 + (r5 : Int)) (by omega) (by omega) 5 (by decide) (by decide) _).mono ?_
  rintro e wz ⟨r6, hr6, rfl, hw⟩
  have bz : Below w1.heap.size w1 wz := by
    rw [hw]
    exact ((((((Below.refl _ _).alloc (Nat.le_refl _) _).alloc (by simp) _).alloc (by simp; omega) _).alloc (by simp; omega) _).alloc (by simp; omega) _).alloc (by simp; omega) _
  have z0 : wz.heap[w1.heap.size]? = some (.cells #[.string { data := #[60, 60, 47, 65, 32, 91, 49, 32, 50, 32, 48, 32, 82, 32, 116, 114, 117, 101, 93, 47, 66, 40, 120, 41, 62, 62] }, .string { data := #[91, 47, 78, 32, 49, 46, 53, 32, 110, 117, 108, 108, 93] }, .string { data := #[45, 55] }, .string { data := #[40, 97, 41] }, .string { data := #[60, 52, 49, 62] }, .string { data := #[50, 32, 48, 32, 82] }] 9 (0, 0)) := by
    rw [hw]
    exact blk_alloc _ (blk_alloc _ (blk_alloc _ (blk_alloc _ (blk_alloc _ (blk_new _ _)))))
  have z1 : wz.heap[w1.heap.size + 1]? = some (.cells #[.string { data := #[65] }, .string { data := #[66] }] 9 (0, 0)) := by
    rw [hw]
    exact blk_alloc _ (blk_alloc _ (blk_alloc _ (blk_alloc _ (blk_new' (by simp)))))
  have z2 : wz.heap[w1.heap.size + 1 + 1]? = some (.cells #[.int .i64 2, .int .i64 1, .int .i64 0, .string { data := #[] }, .slice none 0 0, .slice none 0 0, .slice none 0 0, .int .i64 9, .int .i64 2, .int .i64 0, .string { data := #[] }, .slice none 0 0, .slice none 0 0, .slice none 0 0, .int .i64 1, .int .i64 1, .int .i64 0, .string { data := #[] }, .slice none 0 0, .slice none 0 0, .slice none 0 0] 67 (0, 0)) := by
    rw [hw]
    exact blk_alloc _ (blk_alloc _ (blk_alloc _ (blk_new' (by simp))))
  have z3 : wz.heap[w1.heap.size + 1 + 1 + 1]? = some (.cells #[.int .i64 6, .int .i64 0, .int .i64 0, .string { data := #[] }, .slice (some ⟨w1.heap.size + 1 + 1, 0, none⟩) 3 3, .slice none 0 0, .slice none 0 0, .int .i64 5, .int .i64 0, .int .i64 0, .string { data := #[120] }, .slice none 0 0, .slice none 0 0, .slice none 0 0] 67 (0, 0)) := by
    rw [hw]
    exact blk_alloc _ (blk_alloc _ (blk_new' (by simp)))
  have z4 : wz.heap[w1.heap.size + 1 + 1 + 1 + 1]? = some (.cells #[.int .i64 4, .int .i64 0, .int .i64 0, .string { data := #[78] }, .slice none 0 0, .slice none 0 0, .slice none 0 0, .int .i64 3, .int .i64 15, .int .i64 1, .string { data := #[] }, .slice none 0 0, .slice none 0 0, .slice none 0 0, .int .i64 0, .int .i64 0, .int .i64 0, .string { data := #[] }, .slice none 0 0, .slice none 0 0, .slice none 0 0] 67 (0, 0)) := by
    rw [hw]
    exact blk_alloc _ (blk_new' (by simp))
  have z5 : wz.heap[w1.heap.size + 1 + 1 + 1 + 1 + 1]? = some (.cells #[.int .i64 7, .int .i64 0, .int .i64 0, .string { data := #[] }, .slice (some ⟨w1.heap.size + 1 + 1 + 1, 0, none⟩) 2 2, .slice (some ⟨w1.heap.size + 1, 0, none⟩) 2 2, .slice none 0 0, .int .i64 6, .int .i64 0, .int .i64 0, .string { data := #[] }, .slice (some ⟨w1.heap.size + 1 + 1 + 1 + 1, 0, none⟩) 3 3, .slice none 0 0, .slice none 0 0, .int .i64 2, .int .i64 (-7), .int .i64 0, .string { data := #[] }, .slice none 0 0, .slice none 0 0, .slice none 0 0, .int .i64 5, .int .i64 0, .int .i64 0, .string { data := #[97] }, .slice none 0 0, .slice none 0 0, .slice none 0 0, .int .i64 5, .int .i64 0, .int .i64 0, .string { data := #[65] }, .slice none 0 0, .slice none 0 0, .slice none 0 0, .int .i64 9, .int .i64 2, .int .i64 0, .string { data := #[] }, .slice none 0 0, .slice none 0 0, .slice none 0 0] 67 (0, 0)) := by
    rw [hw]
    exact blk_new' (by simp)
  clear hw
  have HWT := hide (loose_want z1 z2 z3 z4 z5)
  have BZ : Hid (Below w.heap.size w wz) := B1.out.trans (bz.mono B1.out.size)
  have Z0 : Hid (wz.heap[w1.heap.size]? = some (.cells lcells 9 (0, 0))) := z0
  have hbz : w1.heap.size < wz.heap.size := lt_of_block z0
  clear bz z0 z1 z2 z3 z4 z5
  generalize w1.heap.size + 1 + 1 + 1 + 1 + 1 = b5 at *
  generalize w1.heap.size = b0 at *
  obtain ⟨n, hn⟩ : ∃ n, 2 + r6 = n := ⟨_, rfl⟩
  have hnw : IntKind.i64.wrap (2 + (r6 : Int)) = (n : Int) := by rw [IntKind.wrap_i64]; omega
  have hnw2 : 2 + (r6 : Int) = (n : Int) := by omega
  have hn2 : 2 ≤ n := by omega
  have hn6 : n ≤ 6 := by omega
  clear hn
  go_wp2_with fail
  refine (gap_ok wh hw1 hw2).mono ?_
  rintro e w7 ⟨G, rfl, hg1, hg2, hg3, b7⟩
  have HLR := hide (loose_rest (w := w7) (w0 := w) (ra := ra) (rl := rl) (rcap := rcap) (wh := wh) (kk := kk) (b0 := b0) (b5 := b5) (n := n) (G := G) (BZ.out.trans (b7.mono BZ.out.size)) ((HE.out.up (Nat.le_refl _) BZ.out).up (Nat.le_refl _) b7) hk1 hk2 hn2 hn6 ⟨hg1, hg2, hg3⟩ (by show w7.heap[b0]? = _; rw [b7.block b0 (lt_of_block Z0.out)]; exact Z0.out) (HWT.out.keep b7))
  clear hg1 hg2 hg3 b7 HE HWT Z0 BZ
  simp only []
  go_step
  go_step
  go_step
  go_step
  go_step
  go_step
  refine ‹∀ (a : Act) (w : World), Code.wp Tryz.prog _ _ a w → _› _ _ ?_
  exact HLR.out _ _ _ _ _ _ _ _ _ _ _ _ _ _ _ _ _ _ _ _ _ _ _ _ _ _ _ _ _ _
end Go.Proofs.YtgkljcmjnphpeaaGreatDoor
