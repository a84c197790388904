/- deflater.within: which number of a span is meant, put. -/
import Derived.Test.YtgkljcmjnphpeaaDoorDefl
namespace Go.Proofs.YtgkljcmjnphpeaaDoor
open Go.RowKit
variable {w : World} {B bw bm g1 g2 cap T : Nat} {data : List Nat} {ao : Option Addr} {bs : List Bool} {at_ : Nat} {rest : List Value}

theorem Wx.lt (h : Wx B bw T rest w bs) : B ≤ bw ∧ bw < w.heap.size := by obtain ⟨_, _, _, hq, _⟩ := h; exact ⟨hq.hb, lt_of_block hq.blk⟩

set_option maxRecDepth 100000 in
set_option maxHeartbeats 1000000 in
theorem dwithin_ok (h : Wx B bw 71 rest w bs) (x : Nat × Nat) (v : Nat) (hv : x.1 ≤ v) (hx : x.2 ≤ 15) (hv2 : v ≤ 100000) (hl : bs.length + 16 ≤ 1099511627776) :
    Calls Tryd.prog 68 #[.pointer (some ⟨bw, 0, none⟩), .int .i64 v, spanVal x] w fun e w' => e = .returned (.tuple #[]) ∧ Wx B bw 71 rest w' (bs ++ Fo.numBits x.2 (v - x.1)) ∧ Kept 5 B [bw] w w' := by
  obtain ⟨x1, x2⟩ := x
  unfold spanVal
  simp only [] at hv hx ⊢
  have HK : Hid (Kept 5 B [bw] w (w.alloc (.cells #[.int .i64 (x1 : Nat), .int .i64 (x2 : Nat)] 98)).drew) := hide (((Kept.refl _ _ _ _).alloc _).drew)
  have HW : Hid (Wx B bw 71 rest (w.alloc (.cells #[.int .i64 (x1 : Nat), .int .i64 (x2 : Nat)] 98)).drew bs) := hide (h.alloc _).drew
  have q0 : (w.alloc (.cells #[.int .i64 (x1 : Nat), .int .i64 (x2 : Nat)] 98)).cell? ⟨w.heap.size, 0, none⟩ = some (.int .i64 (x1 : Nat)) := by rw [cell_blk (blk_new _ _)]; rfl
  have q1 : (w.alloc (.cells #[.int .i64 (x1 : Nat), .int .i64 (x2 : Nat)] 98)).cell? ⟨w.heap.size, 1, none⟩ = some (.int .i64 (x2 : Nat)) := by rw [cell_blk (blk_new _ _)]; rfl
  obtain ⟨l1, l2⟩ := h.lt
  have HC := hide (wbits_ok HW.out (v - x1) x2 (by omega) (by omega) (by omega))
  have e1 : Hid (IntKind.i64.wrap ((v : Int) - x1) = ((v - x1 : Nat) : Int)) := by
    unfold Hid
    rw [IntKind.wrap_i64]; omega
  clear h HW
  go_enter Tryd.func68, Tryd.ntmps68
  go_wp2_with fail
  generalize w.alloc (.cells #[.int .i64 (x1 : Nat), .int .i64 (x2 : Nat)] 98) = w2 at *
  go_region_with (go_at_call 44; rw [e1.out]; refine HC.out.mono ?_; rintro e w1 ⟨rfl, hf1, k1⟩)
  all_goals go_wp2
  all_goals go_end0
  all_goals exact ⟨rfl, hf1, HK.out.trans k1⟩
end Go.Proofs.YtgkljcmjnphpeaaDoor
