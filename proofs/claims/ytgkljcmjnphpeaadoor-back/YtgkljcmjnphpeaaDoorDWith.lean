/- deflater.within: which number of a span is meant, put. -/
import Derived.Test.YtgkljcmjnphpeaaDoorSpan
import Derived.Test.YtgkljcmjnphpeaaDoorDefl
set_option linter.unusedVariables false
set_option linter.unusedSimpArgs false
namespace Go.Proofs.YtgkljcmjnphpeaaDoor
open Go.RowKit
variable {w : World}

theorem run_least (X Y : Nat) (W : World) : (Instr.field 98 (spanVal (X, Y)) 0).run Tryd.prog W = .ok (.int .i64 (X : Nat)) W := by kernel_rfl

theorem lastSym_down (f : Nat → Nat × Nat) (v k : Nat) (h : v < (f (k + 1)).1) : Fo.lastSym f v (k + 1) = Fo.lastSym f v k := by rw [Fo.lastSym, if_pos h]
theorem lastSym_here (f : Nat → Nat × Nat) (v k : Nat) (h : ¬ v < (f k).1) : Fo.lastSym f v k = k := by
  cases k with
  | zero => rfl
  | succ k => rw [Fo.lastSym, if_neg h]

theorem lenSpan_le' : ∀ s : Fin 286, 257 ≤ s.val → (Fo.lenSpan s.val).1 ≤ 258 := by decide +kernel
theorem distSpan_le' : ∀ s : Fin 30, (Fo.distSpan s.val).1 ≤ 24577 := by decide +kernel

set_option maxRecDepth 100000 in
set_option maxHeartbeats 1000000 in
theorem lengthSymbol_ok (v : Nat) (h1 : 3 ≤ v) (h2 : v ≤ 258) (w : World) : Calls Tryd.prog 67 #[.int .i64 v] w fun e w' => e = .returned (.int .i64 (Fo.lenSym v : Nat)) ∧ Below w.heap.size w w' := by
  have HR : Hid (Fo.lastSym Fo.lenSpan v 285 = Fo.lenSym v) := hide rfl
  generalize Fo.lenSym v = R at *
  go_enter Tryd.func67, Tryd.ntmps67
  go_wp2
  go_loopw [3] (fun s wr => ∃ k : Nat, 257 ≤ k ∧ k ≤ 285 ∧ s = .int .i64 k ∧ Hid (Fo.lastSym Fo.lenSpan v k = R) ∧ Below w.heap.size w wr) (fun s _ => (intOf s).toNat)
  case atStart => exact ⟨285, by omega, by omega, rfl, HR, Below.refl _ _⟩
  case round =>
    obtain ⟨k, k1, k2, rfl, HK, bl⟩ := hrel
    have hcall := hide (lengthSpan_ok k k1 k2 wr)
    have HX : Hid (∀ X Y, Fo.lenSpan k = (X, Y) → (v < X → 257 < k ∧ Fo.lastSym Fo.lenSpan v (k - 1) = R) ∧ (¬ v < X → k = R)) := by
      intro X Y hxy
      have e : (Fo.lenSpan k).1 = X := by rw [hxy]
      refine ⟨fun hlt => ?_, fun hge => ?_⟩
      · have hk : 257 < k := by
          rcases Nat.lt_or_ge 257 k with c | c
          · exact c
          · obtain rfl : k = 257 := by omega
            have : (Fo.lenSpan 257).1 = 3 := by decide
            omega
        refine ⟨hk, ?_⟩
        obtain ⟨j, rfl⟩ : ∃ j, k = j + 1 := ⟨k - 1, by omega⟩
        rw [Nat.add_sub_cancel, ← lastSym_down Fo.lenSpan v j (by rw [e]; exact hlt)]
        exact HK.out
      · rw [← HK.out]; exact (lastSym_here _ _ _ (by rw [e]; exact hge)).symm
    obtain ⟨X, Y, hXY⟩ : ∃ X Y, Fo.lenSpan k = (X, Y) := ⟨_, _, rfl⟩
    rw [hXY] at hcall
    have hX := HX.out X Y hXY
    have hXm : X ≤ 258 := by
      have := (lenSpan_le' ⟨k, by omega⟩ k1)
      simp only [] at this
      rw [hXY] at this; exact this
    clear HX HK hXY HR
    have hfl := run_least X Y
    by_cases hc : v < X
    · obtain ⟨a1, a2⟩ := hX.1 hc
      have A2 := hide a2
      have hc' : (v : Int) < X := by omega
      clear hX a2
      go_wp2_with fail
      refine hcall.out.mono ?_
      rintro e w1 ⟨rfl, o, rfl⟩
      go_wp2
      go_roundw
      case rel => exact ⟨k - 1, by omega, by omega, by go_num, A2, bl.alloc bl.size _⟩
      case measure => simp [intOf]; omega
    · have a1 := hide (hX.2 hc)
      have hc' : ¬ (v : Int) < X := by omega
      clear hX
      go_wp2_with fail
      refine hcall.out.mono ?_
      rintro e w1 ⟨rfl, o, rfl⟩
      go_wp2
      go_ret
      exact ⟨by rw [a1.out]; rfl, bl.alloc bl.size _⟩

set_option maxRecDepth 100000 in
set_option maxHeartbeats 1000000 in
theorem distanceSymbol_ok (v : Nat) (h1 : 1 ≤ v) (h2 : v ≤ 32768) (w : World) : Calls Tryd.prog 70 #[.int .i64 v] w fun e w' => e = .returned (.int .i64 (Fo.distSym v : Nat)) ∧ Below w.heap.size w w' := by
  have HR : Hid (Fo.lastSym Fo.distSpan v 29 = Fo.distSym v) := hide rfl
  generalize Fo.distSym v = R at *
  go_enter Tryd.func70, Tryd.ntmps70
  go_wp2
  go_loopw [3] (fun s wr => ∃ k : Nat, k ≤ 29 ∧ s = .int .i64 k ∧ Hid (Fo.lastSym Fo.distSpan v k = R) ∧ Below w.heap.size w wr) (fun s _ => (intOf s).toNat)
  case atStart => exact ⟨29, by omega, rfl, HR, Below.refl _ _⟩
  case round =>
    obtain ⟨k, k2, rfl, HK, bl⟩ := hrel
    have hcall := hide (distanceSpan_ok k k2 wr)
    have HX : Hid (∀ X Y, Fo.distSpan k = (X, Y) → (v < X → 0 < k ∧ Fo.lastSym Fo.distSpan v (k - 1) = R) ∧ (¬ v < X → k = R)) := by
      intro X Y hxy
      have e : (Fo.distSpan k).1 = X := by rw [hxy]
      refine ⟨fun hlt => ?_, fun hge => ?_⟩
      · have hk : 0 < k := by
          rcases Nat.lt_or_ge 0 k with c | c
          · exact c
          · obtain rfl : k = 0 := by omega
            have : (Fo.distSpan 0).1 = 1 := by decide
            omega
        refine ⟨hk, ?_⟩
        obtain ⟨j, rfl⟩ : ∃ j, k = j + 1 := ⟨k - 1, by omega⟩
        rw [Nat.add_sub_cancel, ← lastSym_down Fo.distSpan v j (by rw [e]; exact hlt)]
        exact HK.out
      · rw [← HK.out]; exact (lastSym_here _ _ _ (by rw [e]; exact hge)).symm
    obtain ⟨X, Y, hXY⟩ : ∃ X Y, Fo.distSpan k = (X, Y) := ⟨_, _, rfl⟩
    rw [hXY] at hcall
    have hX := HX.out X Y hXY
    have hXm : X ≤ 24577 := by
      have := (distSpan_le' ⟨k, by omega⟩)
      simp only [] at this
      rw [hXY] at this; exact this
    clear HX HK hXY HR
    have hfl := run_least X Y
    by_cases hc : v < X
    · obtain ⟨a1, a2⟩ := hX.1 hc
      have A2 := hide a2
      have hc' : (v : Int) < X := by omega
      clear hX a2
      go_wp2_with fail
      refine hcall.out.mono ?_
      rintro e w1 ⟨rfl, o, rfl⟩
      go_wp2
      go_roundw
      case rel => exact ⟨k - 1, by omega, by go_num, A2, bl.alloc bl.size _⟩
      case measure => simp [intOf]; omega
    · have a1 := hide (hX.2 hc)
      have hc' : ¬ (v : Int) < X := by omega
      clear hX
      go_wp2_with fail
      refine hcall.out.mono ?_
      rintro e w1 ⟨rfl, o, rfl⟩
      go_wp2
      go_ret
      exact ⟨by rw [a1.out]; rfl, bl.alloc bl.size _⟩
end Go.Proofs.YtgkljcmjnphpeaaDoor
namespace Go.Proofs.YtgkljcmjnphpeaaDoor
open Go.RowKit
variable {w : World} {B bw bm g1 g2 cap T : Nat} {data : List Nat} {ao : Option Addr} {bs : List Bool} {at_ : Nat} {rest : List Value}

theorem Wx.lt (h : Wx B bw T rest w bs) : B ≤ bw ∧ bw < w.heap.size := by obtain ⟨_, _, _, hq, _⟩ := h; exact ⟨hq.hb, lt_of_block hq.blk⟩

set_option maxRecDepth 100000 in
set_option maxHeartbeats 1000000 in
theorem dwithin_ok (h : Wx B bw 71 rest w bs) (x : Nat × Nat) (v : Nat) (hv : x.1 ≤ v) (hx : x.2 ≤ 15) (hv2 : v ≤ 100000) (hl : bs.length + 16 ≤ 1099511627776) :
    Calls Tryd.prog 68 #[.pointer (some ⟨bw, 0, none⟩), .int .i64 v, spanVal x] w fun e w' => e = .returned (.tuple #[]) ∧ Wx B bw 71 rest w' (bs ++ Fo.numBits x.2 (v - x.1)) ∧ Kept 5 B [bw] w w' := by
  obtain ⟨x1, x2⟩ := x
  unfold spanVal
  simp only [] at hv hx ⊢
  have HK : Hid (Kept 5 B [bw] w (w.alloc (.cells #[.int .i64 (x1 : Nat), .int .i64 (x2 : Nat)] 98)).drew) := hide (((Kept.refl _ _ _ _).alloc _).drew)
  have HW : Hid (Wx B bw 71 rest (w.alloc (.cells #[.int .i64 (x1 : Nat), .int .i64 (x2 : Nat)] 98)).drew bs) := hide (h.alloc _).drew
  have q0 : (w.alloc (.cells #[.int .i64 (x1 : Nat), .int .i64 (x2 : Nat)] 98)).cell? ⟨w.heap.size, 0, none⟩ = some (.int .i64 (x1 : Nat)) := by rw [cell_blk (blk_new _ _)]; rfl
  have q1 : (w.alloc (.cells #[.int .i64 (x1 : Nat), .int .i64 (x2 : Nat)] 98)).cell? ⟨w.heap.size, 1, none⟩ = some (.int .i64 (x2 : Nat)) := by rw [cell_blk (blk_new _ _)]; rfl
  obtain ⟨l1, l2⟩ := h.lt
  have HC := hide (wbits_ok HW.out (v - x1) x2 (by omega) (by omega) (by omega))
  have e1 : Hid (IntKind.i64.wrap ((v : Int) - x1) = ((v - x1 : Nat) : Int)) := by
    unfold Hid
    rw [IntKind.wrap_i64]; omega
  clear h HW
  go_enter Tryd.func68, Tryd.ntmps68
  go_wp2_with fail
  generalize w.alloc (.cells #[.int .i64 (x1 : Nat), .int .i64 (x2 : Nat)] 98) = w2 at *
  go_region_with (go_at_call 44; rw [e1.out]; refine HC.out.mono ?_; rintro e w1 ⟨rfl, hf1, k1⟩)
  all_goals go_wp2
  all_goals go_end0
  all_goals exact ⟨rfl, hf1, HK.out.trans k1⟩
end Go.Proofs.YtgkljcmjnphpeaaDoor
