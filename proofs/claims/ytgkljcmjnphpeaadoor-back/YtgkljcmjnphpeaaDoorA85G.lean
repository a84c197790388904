/- a85Group, where the digits end. -/
import Derived.Test.YtgkljcmjnphpeaaDoorHex
import Derived.Test.YtgkljcmjnphpeaaDoorB64
import Derived.Test.YtgkljcmjnphpeaaDoorFlate
import Derived.Deep.MidRow
import Derived.Test.YtgkljcmjnphpeaaDoorFixedC
set_option linter.unusedVariables false
set_option linter.unusedSimpArgs false
namespace Go.Proofs.YtgkljcmjnphpeaaDoor
open Go.RowKit
variable {w : World}

/-- What digits mean, counted by 85. -/
def a85V : List Nat → Nat → Nat
  | [], n => n
  | d :: ds, n => a85V ds (n * 85 + (d - 33))
def a85Out (V : Nat) : List Nat := [V / 16777216, V / 65536 % 256, V / 256 % 256, V % 256]

theorem within_u64_yes (n a b : Int) (w : World) (h1 : a ≤ n) (h2 : n ≤ b) : Calls Tryd.prog 76 #[.int .u64 n, .int .u64 a, .int .u64 b] w fun e w' => e = .returned (.bool true) ∧ w' = w := by
  go_enter Tryd.func76, Tryd.ntmps76
  go_wp2
  go_ret
  exact ⟨rfl, rfl⟩

theorem run_index5_0 (a0 a1 a2 a3 a4 : Nat) (W : World) : (Instr.index 61 (.agg #[.int .u8 (a0 : Nat), .int .u8 (a1 : Nat), .int .u8 (a2 : Nat), .int .u8 (a3 : Nat), .int .u8 (a4 : Nat)]) (.int .i64 0)).run Tryd.prog W = .ok (.int .u8 (a0 : Nat)) W := by kernel_rfl
theorem run_index5_1 (a0 a1 a2 a3 a4 : Nat) (W : World) : (Instr.index 61 (.agg #[.int .u8 (a0 : Nat), .int .u8 (a1 : Nat), .int .u8 (a2 : Nat), .int .u8 (a3 : Nat), .int .u8 (a4 : Nat)]) (.int .i64 1)).run Tryd.prog W = .ok (.int .u8 (a1 : Nat)) W := by kernel_rfl
theorem run_index5_2 (a0 a1 a2 a3 a4 : Nat) (W : World) : (Instr.index 61 (.agg #[.int .u8 (a0 : Nat), .int .u8 (a1 : Nat), .int .u8 (a2 : Nat), .int .u8 (a3 : Nat), .int .u8 (a4 : Nat)]) (.int .i64 2)).run Tryd.prog W = .ok (.int .u8 (a2 : Nat)) W := by kernel_rfl
theorem run_index5_3 (a0 a1 a2 a3 a4 : Nat) (W : World) : (Instr.index 61 (.agg #[.int .u8 (a0 : Nat), .int .u8 (a1 : Nat), .int .u8 (a2 : Nat), .int .u8 (a3 : Nat), .int .u8 (a4 : Nat)]) (.int .i64 3)).run Tryd.prog W = .ok (.int .u8 (a3 : Nat)) W := by kernel_rfl
theorem run_index5_4 (a0 a1 a2 a3 a4 : Nat) (W : World) : (Instr.index 61 (.agg #[.int .u8 (a0 : Nat), .int .u8 (a1 : Nat), .int .u8 (a2 : Nat), .int .u8 (a3 : Nat), .int .u8 (a4 : Nat)]) (.int .i64 4)).run Tryd.prog W = .ok (.int .u8 (a4 : Nat)) W := by kernel_rfl

/-- Counted so far. -/
def pv (P1 P2 P3 P4 V : Nat) : Nat → Nat
  | 0 => 0
  | 1 => P1
  | 2 => P2
  | 3 => P3
  | 4 => P4
  | _ => V

set_option maxRecDepth 100000 in
set_option maxHeartbeats 1000000 in
theorem a85Bytes_ok (g0 g1 g2 g3 g4 : Nat) (h0 : 33 ≤ g0 ∧ g0 ≤ 117) (h1 : 33 ≤ g1 ∧ g1 ≤ 117) (h2 : 33 ≤ g2 ∧ g2 ≤ 117) (h3 : 33 ≤ g3 ∧ g3 ≤ 117) (h4 : 33 ≤ g4 ∧ g4 ≤ 117) (V : Nat) (hV : a85V [g0, g1, g2, g3, g4] 0 = V) (hm : V ≤ 4294967295) (w : World) :
    Calls Tryd.prog 55 #[.agg #[.int .u8 g0, .int .u8 g1, .int .u8 g2, .int .u8 g3, .int .u8 g4]] w fun e w' => e = .returned (.agg ((a85Out V).map fun x : Nat => Value.int .u8 (x : Int)).toArray) ∧ Below w.heap.size w w' := by
  obtain ⟨P1, e1⟩ : ∃ P1, P1 = g0 - 33 := ⟨_, rfl⟩
  obtain ⟨P2, e2⟩ : ∃ P2, P2 = P1 * 85 + (g1 - 33) := ⟨_, rfl⟩
  obtain ⟨P3, e3⟩ : ∃ P3, P3 = P2 * 85 + (g2 - 33) := ⟨_, rfl⟩
  obtain ⟨P4, e4⟩ : ∃ P4, P4 = P3 * 85 + (g3 - 33) := ⟨_, rfl⟩
  have e5 : V = P4 * 85 + (g4 - 33) := by
    rw [e4, e3, e2, e1, ← hV]
    show ((((0 * 85 + (g0 - 33)) * 85 + (g1 - 33)) * 85 + (g2 - 33)) * 85 + (g3 - 33)) * 85 + (g4 - 33) = _
    rw [Nat.zero_mul, Nat.zero_add]
  have b1 : P1 ≤ 84 := by omega
  have b2 : P2 ≤ 7224 := by omega
  have b3 : P3 ≤ 614124 := by omega
  have b4 : P4 ≤ 52200624 := by omega
  have E := hide (And.intro e1 (And.intro e2 (And.intro e3 (And.intro e4 e5))))
  clear hV e1 e2 e3 e4 e5
  go_enter Tryd.func55, Tryd.ntmps55
  go_wp2
  generalize hW : World.alloc (World.alloc w _) _ = W
  have hbW : Below w.heap.size w W := by rw [← hW]; exact (((Below.refl _ _).alloc (Nat.le_refl _) _).alloc (by simp) _)
  have hblk : W.heap[w.heap.size + 1]? = some (.cells #[.int .u8 0, .int .u8 0, .int .u8 0, .int .u8 0] 43 (0, 0)) := by
    rw [← hW]
    have := blk_new (w.alloc (.cells #[.int .u8 g0, .int .u8 g1, .int .u8 g2, .int .u8 g3, .int .u8 g4] 61)) (.cells #[.int .u8 0, .int .u8 0, .int .u8 0, .int .u8 0] 43 (0, 0))
    simpa using this
  have HBW := hide hbW
  have HBK := hide hblk
  clear hW hbW hblk
  go_loopw [3, 7] (fun n i wr => ∃ k : Nat, k ≤ 5 ∧ i = .int .i64 k ∧ n = .int .u64 (pv P1 P2 P3 P4 V k : Nat) ∧ wr = W) (fun _ i _ => 5 - (intOf i).toNat)
  case atStart => exact ⟨0, by omega, rfl, rfl, rfl⟩
  case round =>
    obtain ⟨k, hk, rfl, rfl, rfl⟩ := hrel
    obtain rfl | rfl | rfl | rfl | rfl | rfl : k = 0 ∨ k = 1 ∨ k = 2 ∨ k = 3 ∨ k = 4 ∨ k = 5 := by omega
    · have hix := run_index5_0 g0 g1 g2 g3 g4
      simp only [pv]
      go_wp2
      go_roundw
      case rel =>
        refine ⟨1, by omega, rfl, ?_, trivial⟩
        show Value.int .u64 _ = Value.int .u64 (P1 : Nat)
        congr 1
        have := E.out
        omega
      case measure => simp [intOf]
    · have hix := run_index5_1 g0 g1 g2 g3 g4
      simp only [pv]
      go_wp2
      go_roundw
      case rel =>
        refine ⟨2, by omega, rfl, ?_, trivial⟩
        show Value.int .u64 _ = Value.int .u64 (P2 : Nat)
        congr 1
        have := E.out
        omega
      case measure => simp [intOf]
    · have hix := run_index5_2 g0 g1 g2 g3 g4
      simp only [pv]
      go_wp2
      go_roundw
      case rel =>
        refine ⟨3, by omega, rfl, ?_, trivial⟩
        show Value.int .u64 _ = Value.int .u64 (P3 : Nat)
        congr 1
        have := E.out
        omega
      case measure => simp [intOf]
    · have hix := run_index5_3 g0 g1 g2 g3 g4
      simp only [pv]
      go_wp2
      go_roundw
      case rel =>
        refine ⟨4, by omega, rfl, ?_, trivial⟩
        show Value.int .u64 _ = Value.int .u64 (P4 : Nat)
        congr 1
        have := E.out
        omega
      case measure => simp [intOf]
    · have hix := run_index5_4 g0 g1 g2 g3 g4
      simp only [pv]
      go_wp2
      go_roundw
      case rel =>
        refine ⟨5, by omega, rfl, ?_, trivial⟩
        show Value.int .u64 _ = Value.int .u64 (V : Nat)
        congr 1
        have := E.out
        omega
      case measure => simp [intOf]
    · simp only [pv]
      have n0 : wr.cell? ⟨w.heap.size + 1, 0, none⟩ = some (.int .u8 0) := by rw [cell_blk HBK.out]; rfl
      have n1 : wr.cell? ⟨w.heap.size + 1, 1, none⟩ = some (.int .u8 0) := by rw [cell_blk HBK.out]; rfl
      have n2 : wr.cell? ⟨w.heap.size + 1, 2, none⟩ = some (.int .u8 0) := by rw [cell_blk HBK.out]; rfl
      have n3 : wr.cell? ⟨w.heap.size + 1, 3, none⟩ = some (.int .u8 0) := by rw [cell_blk HBK.out]; rfl
      have f0 : wr.frozen? ⟨w.heap.size + 1, 0, none⟩ = false := free_blk HBK.out
      have f1 : wr.frozen? ⟨w.heap.size + 1, 1, none⟩ = false := free_blk HBK.out
      have f2 : wr.frozen? ⟨w.heap.size + 1, 2, none⟩ = false := free_blk HBK.out
      have f3 : wr.frozen? ⟨w.heap.size + 1, 3, none⟩ = false := free_blk HBK.out
      have hfin : Hid (((((wr.setCell ⟨w.heap.size + 1, 0, none⟩ (.int .u8 (V / 16777216 : Nat))).setCell ⟨w.heap.size + 1, 1, none⟩ (.int .u8 (V / 65536 % 256 : Nat))).setCell ⟨w.heap.size + 1, 2, none⟩ (.int .u8 (V / 256 % 256 : Nat))).setCell ⟨w.heap.size + 1, 3, none⟩ (.int .u8 (V % 256 : Nat))).heap[w.heap.size + 1]? = some (.cells ((a85Out V).map fun x : Nat => Value.int .u8 (x : Int)).toArray 43 (0, 0))) := by
        unfold Hid
        exact blk_setCell _ (blk_setCell _ (blk_setCell _ (blk_setCell _ HBK.out)))
      have hbel : Hid (Below w.heap.size w ((((wr.setCell ⟨w.heap.size + 1, 0, none⟩ (.int .u8 (V / 16777216 : Nat))).setCell ⟨w.heap.size + 1, 1, none⟩ (.int .u8 (V / 65536 % 256 : Nat))).setCell ⟨w.heap.size + 1, 2, none⟩ (.int .u8 (V / 256 % 256 : Nat))).setCell ⟨w.heap.size + 1, 3, none⟩ (.int .u8 (V % 256 : Nat)))) :=
        hide ((((HBW.out.setCell (p := ⟨w.heap.size + 1, 0, none⟩) (by simp) _).setCell (p := ⟨w.heap.size + 1, 1, none⟩) (by simp) _).setCell (p := ⟨w.heap.size + 1, 2, none⟩) (by simp) _).setCell (p := ⟨w.heap.size + 1, 3, none⟩) (by simp) _)
      have x0 : Hid ((V : Int) / 16777216 = (V / 16777216 : Nat)) := hide rfl
      go_wp2_with (first | (go_at_call 76; refine (within_u64_yes _ _ _ _ (by omega) (by omega)).mono ?_; rintro e w' ⟨rfl, rfl⟩) | (go_at_call 39; refine (must_yes _).mono ?_; rintro e w' ⟨rfl, rfl⟩))
      refine bodyPost_ret (v := .agg ((a85Out V).map fun x : Nat => Value.int .u8 (x : Int)).toArray) ?_ rfl ⟨rfl, hbel.out⟩
      exact results_cell_row Tryd.results55 _ _ (w.heap.size + 1) 43 _ _ _ rfl hfin.out Tryd.underlying43 rfl (by kernel_rfl)
end Go.Proofs.YtgkljcmjnphpeaaDoor
/- putShort: what the last digits mean. -/
namespace Go.Proofs.YtgkljcmjnphpeaaDoor
open Go.RowKit
variable {B br bd off cap : Nat} {d : List Nat} {most : Nat} {w : World} {p : Nat} {ov : Value} {out : List Nat}

def byteVals (l : List Nat) : List Value := l.map fun x : Nat => Value.int .u8 (x : Int)

/-- Digits from a place on filled up by the last one. -/
def fill5 (ds : List Nat) : Nat → Nat → List Nat
  | 0, _ => ds
  | f + 1, k => fill5 (ds.set k 117) f (k + 1)

theorem fill5_eq (g0 g1 g2 g3 g4 n : Nat) (hn : 2 ≤ n) (hn2 : n ≤ 4) : fill5 [g0, g1, g2, g3, g4] (5 - n) n = [g0, g1, if n ≤ 2 then 117 else g2, if n ≤ 3 then 117 else g3, 117] := by
  obtain rfl | rfl | rfl : n = 2 ∨ n = 3 ∨ n = 4 := by omega
  · rfl
  · rfl
  · rfl
theorem byteVals_set (l : List Nat) (k x : Nat) : ((byteVals l).toArray.setIfInBounds k (.int .u8 (x : Int))) = (byteVals (l.set k x)).toArray := by
  unfold byteVals
  rw [List.map_set]; simp

theorem run_slice43_1 (b : Nat) (W : World) : (Instr.sliceAt 43 (.pointer (some ⟨b, 0, none⟩)) none (some (.int .i64 1)) none).run Tryd.prog W = .ok (.slice (some ⟨b, 0, none⟩) 1 4) W := by kernel_rfl
theorem run_slice43_2 (b : Nat) (W : World) : (Instr.sliceAt 43 (.pointer (some ⟨b, 0, none⟩)) none (some (.int .i64 2)) none).run Tryd.prog W = .ok (.slice (some ⟨b, 0, none⟩) 2 4) W := by kernel_rfl
theorem run_slice43_3 (b : Nat) (W : World) : (Instr.sliceAt 43 (.pointer (some ⟨b, 0, none⟩)) none (some (.int .i64 3)) none).run Tryd.prog W = .ok (.slice (some ⟨b, 0, none⟩) 3 4) W := by kernel_rfl
theorem run_slice43 (b n : Nat) (hn : 2 ≤ n) (hn2 : n ≤ 4) (W : World) : (Instr.sliceAt 43 (.pointer (some ⟨b, 0, none⟩)) none (some (.int .i64 ((n : Int) - 1))) none).run Tryd.prog W = .ok (.slice (some ⟨b, 0, none⟩) (n - 1) 4) W := by
  obtain rfl | rfl | rfl : n = 2 ∨ n = 3 ∨ n = 4 := by omega
  · exact run_slice43_1 b W
  · exact run_slice43_2 b W
  · exact run_slice43_3 b W

set_option maxRecDepth 100000 in
set_option maxHeartbeats 1000000 in
theorem putShort_ok (h : Rd B br bd off cap d most w p ov out) (g0 g1 g2 g3 g4 n : Nat) (hn : 2 ≤ n) (hn2 : n ≤ 4) (h0 : 33 ≤ g0 ∧ g0 ≤ 117) (h1 : 33 ≤ g1 ∧ g1 ≤ 117) (h2 : 33 ≤ (if n ≤ 2 then 117 else g2) ∧ (if n ≤ 2 then 117 else g2) ≤ 117) (h3 : 33 ≤ (if n ≤ 3 then 117 else g3) ∧ (if n ≤ 3 then 117 else g3) ≤ 117)
    (V : Nat) (hV : a85V [g0, g1, if n ≤ 2 then 117 else g2, if n ≤ 3 then 117 else g3, 117] 0 = V) (hm : V ≤ 4294967295) (ho : out.length + (n - 1) ≤ most) :
    Calls Tryd.prog 53 #[.pointer (some ⟨br, 0, none⟩), .agg (byteVals [g0, g1, g2, g3, g4]).toArray, .int .i64 n] w fun e w' => e = .returned (.tuple #[]) ∧ ∃ ov', Rd B br bd off cap d most w' p ov' (out ++ (a85Out V).take (n - 1)) ∧ Kept 5 B [br] w w' := by
  have HF := hide (fill5_eq g0 g1 g2 g3 g4 n hn hn2)
  have HB : Hid (∀ W : World, Calls Tryd.prog 55 #[.agg (byteVals [g0, g1, if n ≤ 2 then 117 else g2, if n ≤ 3 then 117 else g3, 117]).toArray] W fun e w' => e = .returned (.agg #[.int .u8 (V / 16777216 : Nat), .int .u8 (V / 65536 % 256 : Nat), .int .u8 (V / 256 % 256 : Nat), .int .u8 (V % 256 : Nat)]) ∧ Below W.heap.size W w') := fun W => a85Bytes_ok g0 g1 _ _ 117 h0 h1 h2 h3 (by omega) V hV hm W
  clear h0 h1 h2 h3 hV
  generalize hR : [g0, g1, if n ≤ 2 then 117 else g2, if n ≤ 3 then 117 else g3, 117] = R at *
  have hR5 : R.length = 5 := by rw [← hR]; rfl
  have HR := hide hR
  have hbox : (w.alloc (.cells (byteVals [g0, g1, g2, g3, g4]).toArray 61)).heap[w.heap.size]? = some (.cells (byteVals [g0, g1, g2, g3, g4]).toArray 61 (0, 0)) := blk_new _ _
  have h5 : [g0, g1, g2, g3, g4].length = 5 := rfl
  generalize [g0, g1, g2, g3, g4] = D at *
  clear hR
  have hne0 : ((n : Int) == 0) = false := by simp; omega
  have hn1 : (1 : Int) < n := by omega
  go_enter Tryd.func53, Tryd.ntmps53
  go_wp2_with (go_at_call 39; refine (must_yes _).mono ?_; rintro e w' ⟨rfl, rfl⟩)
  go_loopw [6] (fun i wr => ∃ (k : Nat) (E : List Nat), n ≤ k ∧ k ≤ 5 ∧ i = .int .i64 k ∧ E.length = 5 ∧ Hid (fill5 E (5 - k) k = R) ∧ wr.heap[w.heap.size]? = some (.cells (byteVals E).toArray 61 (0, 0)) ∧ Below w.heap.size w wr) (fun i _ => 5 - (intOf i).toNat)
  case atStart => exact ⟨n, D, Nat.le_refl _, by omega, rfl, h5, HF, hbox, (Below.refl _ _).alloc (Nat.le_refl _) _⟩
  clear hbox HF
  case round =>
    obtain ⟨k, E, k1, k2, rfl, hE, HK, hb, bl⟩ := hrel
    by_cases hk : k < 5
    · obtain ⟨x, hx⟩ : ∃ x, wr.cell? ⟨w.heap.size, k, none⟩ = some x := by
        rw [cell_blk hb]
        exact ⟨_, Array.getElem?_eq_getElem (by simp [byteVals, hE]; omega)⟩
      have fx : wr.frozen? ⟨w.heap.size, k, none⟩ = false := free_blk hb
      have hk' : (k : Int) < 5 := by omega
      have HB2 : Hid ((wr.setCell ⟨w.heap.size, k, none⟩ (.int .u8 117)).heap[w.heap.size]? = some (.cells (byteVals (E.set k 117)).toArray 61 (0, 0))) := by
        unfold Hid
        rw [blk_setCell _ hb]
        exact congrArg (fun C => some (Obj.cells C 61 (0, 0))) (byteVals_set E k 117)
      have HBL := hide bl
      clear hb bl
      go_wp2
      go_roundw
      case rel =>
        refine ⟨k + 1, E.set k 117, by omega, by omega, by go_num, by rw [List.length_set]; exact hE, ?_, HB2.out, HBL.out.setCell (Nat.le_refl _) _⟩
        have := HK.out
        rw [show 5 - k = (5 - (k + 1)) + 1 by omega, fill5] at this
        exact this
      case measure => simp [intOf]; omega
    · obtain rfl : k = 5 := by omega
      obtain rfl : E = R := HK.out
      have hcs : Hid (wr.rangeAt w.heap.size 0 (byteVals E)) := by
        intro j v hj
        rw [cell_blk hb, Nat.zero_add]
        simpa using hj
      have hi5 : Hid ((Tryd.prog.info? 61).map (·.size) = some (byteVals E).length) := by
        unfold Hid byteVals; rw [List.length_map, hE]; kernel_rfl
      have HBL := hide bl
      have hsz := bl.size
      clear hb bl HK
      go_wp2_with (refine wpList_load_mid rfl 61 (.tmp 4) rfl w.heap.size 0 rfl _ _ hcs.out Tryd.underlying61 rfl hi5.out ?_)
      refine (HB.out _).mono ?_
      rintro e w1 ⟨rfl, b1⟩
      have HR1 := hide ((h.ofBelow (HBL.out.trans (b1.mono hsz))))
      have K1 := hide (HBL.out.trans (b1.mono hsz))
      clear h HBL b1 HB hcs hi5
      have hsl := run_slice43 w1.heap.size n hn hn2
      have htl : ((a85Out V).take (n - 1)).length = n - 1 := by rw [List.length_take]; show min (n - 1) 4 = _; omega
      have HP := hide (put_ok (HR1.out.alloc (.cells #[.int .u8 (V / 16777216 : Nat), .int .u8 (V / 65536 % 256 : Nat), .int .u8 (V / 256 % 256 : Nat), .int .u8 (V % 256 : Nat)] 43)) ((a85Out V).take (n - 1)) ⟨w1.heap.size, 0, none⟩ 4 (by rw [htl]; exact ho) (by have := HR1.out.sz; simp; omega) (by
        intro i hi
        rw [htl] at hi
        rw [addr_add, cell_blk (blk_new _ _)]
        have e : nth ((a85Out V).take (n - 1)) i = nth (a85Out V) i := by simp [nth, List.getElem?_take, hi]
        rw [e]
        have h4 : i < 4 := by omega
        match i, h4 with
        | 0, _ => rfl
        | 1, _ => rfl
        | 2, _ => rfl
        | 3, _ => rfl))
      rw [htl] at HP
      go_wp2_with fail
      refine HP.out.mono ?_
      rintro e w2 ⟨rfl, ov', r2, k2⟩
      go_wp2
      go_end0
      exact ⟨rfl, ov', r2, ((Kept.refl _ _ _ _).trans ⟨K1.out.os, K1.out.tape, K1.out.output, K1.out.size, fun i o _ ho _ => by rw [K1.out.block i (lt_of_block ho)]; exact ho⟩ |>.alloc _).trans k2⟩
end Go.Proofs.YtgkljcmjnphpeaaDoor
namespace Go.Proofs.YtgkljcmjnphpeaaDoor
open Go.RowKit
variable {B br bd off cap : Nat} {d : List Nat} {most : Nat} {w : World} {p : Nat} {ov : Value} {out : List Nat}

theorem Kept.ofBelow' {e B : Nat} {S : List Nat} {a b : World} (k : Below a.heap.size a b) : Kept e B S a b :=
  ⟨k.os, k.tape, k.output, k.size, fun i o _ ho _ => by rw [k.block i (lt_of_block ho)]; exact ho⟩

theorem Kept.setNew {e B : Nat} {S : List Nat} {a w : World} (h : Kept e B S a w) {q : Addr} (hp : a.heap.size ≤ q.block) (u : Value) : Kept e B S a (w.setCell q u) :=
  ⟨h.os, h.tape, h.output, by have := h.size; simpa [World.setCell] using this, fun k o hk ho hc => by
    have := lt_of_block ho
    rw [Below.heap_setCell _ _ _ _ (by omega)]; exact h.block k o hk ho hc⟩
theorem Rd.other {b t i : Nat} {C : Array Value} {fz : Nat × Nat} (h : Rd B br bd off cap d most w p ov out) (hb : w.heap[b]? = some (.cells C t fz)) (ht : t ≠ 5) (h1 : b ≠ br) (h2 : b ≠ bd) (v : Value) : Rd B br bd off cap d most (w.setCell ⟨b, i, none⟩ v) p ov out :=
  ⟨h.hB, h.hb, by rw [blk_setCell_ne _ (fun e => h1 e.symm)]; exact h.blk, fun j hj => by rw [cell_ne _ h2]; exact h.dat j hj, ownsRow_setCell_other h.own (own_ne h.own hb ht) _, h.byt, h.cp, h.lc, h.lm, h.lo, h.lp⟩

theorem range_of_blk {W : World} {b T : Nat} {l : List Nat} {fz : Nat × Nat} (h : W.heap[b]? = some (.cells (byteVals l).toArray T fz)) : Hid (W.rangeAt b 0 (byteVals l)) := by
  intro j v hj
  rw [cell_blk h, Nat.zero_add]
  simpa using hj

theorem dig_white (g : Nat) (h1 : 33 ≤ g) (h2 : g ≤ 126) : whiteB g = false := by
  unfold whiteB; simp; omega

def shortV (g0 g1 g2 g3 n : Nat) : Nat := a85V [g0, g1, if n ≤ 2 then 117 else g2, if n ≤ 3 then 117 else g3, 117] 0

theorem putShort_part (h : Rd B br bd off cap d most w p ov out) (G : List Nat) (hG : G.length = 5) (n : Nat) (hn : 2 ≤ n) (hn2 : n ≤ 4) (hg : ∀ i, i < n → 33 ≤ nth G i ∧ nth G i ≤ 117) (V : Nat) (hV : shortV (nth G 0) (nth G 1) (nth G 2) (nth G 3) n = V) (hm : V ≤ 4294967295) (ho : out.length + (n - 1) ≤ most) :
    Calls Tryd.prog 53 #[.pointer (some ⟨br, 0, none⟩), .agg (byteVals (partly G n)).toArray, .int .i64 n] w fun e w' => e = .returned (.tuple #[]) ∧ ∃ ov', Rd B br bd off cap d most w' p ov' (out ++ (a85Out V).take (n - 1)) ∧ Kept 5 B [br] w w' := by
  match G, hG with
  | [g0, g1, g2, g3, g4], _ =>
    have k0 := hg 0 (by omega)
    have k1 := hg 1 (by omega)
    obtain rfl | rfl | rfl : n = 2 ∨ n = 3 ∨ n = 4 := by omega
    · exact putShort_ok h g0 g1 0 0 0 2 (by omega) (by omega) k0 k1 (by simp) (by simp) V hV hm ho
    · have k2 := hg 2 (by omega)
      exact putShort_ok h g0 g1 g2 0 0 3 (by omega) (by omega) k0 k1 k2 (by simp) V hV hm ho
    · have k2 := hg 2 (by omega)
      have k3 := hg 3 (by omega)
      exact putShort_ok h g0 g1 g2 g3 0 4 (by omega) (by omega) k0 k1 k2 k3 V hV hm ho

set_option maxRecDepth 100000 in
set_option maxHeartbeats 2000000 in
theorem a85Group_short (h : Rd B br bd off cap d most w p ov out) (G : List Nat) (hG : G.length = 5) (n : Nat) (hn : 2 ≤ n) (hn2 : n ≤ 4) (hp : p + n + 1 < d.length) (hd : ∀ i, i < n → nth d (p + i) = nth G i) (hg : ∀ i, i < n → 33 ≤ nth G i ∧ nth G i ≤ 117)
    (he1 : nth d (p + n) = 126) (he2 : nth d (p + n + 1) = 62) (V : Nat) (hV : shortV (nth G 0) (nth G 1) (nth G 2) (nth G 3) n = V) (hm : V ≤ 4294967295) (ho : out.length + (n - 1) ≤ most) :
    Calls Tryd.prog 33 #[.pointer (some ⟨br, 0, none⟩)] w fun e w' => e = .returned (.bool false) ∧ ∃ ov', Rd B br bd off cap d most w' (p + n + 2) ov' (out ++ (a85Out V).take (n - 1)) ∧ Kept 5 B [br] w w' := by
  have HD := hide hd
  have HG := hide hg
  have HE1 := hide he1
  have HE2 := hide he2
  have HPS : Hid (∀ (W : World) (q : Nat), Rd B br bd off cap d most W q ov out → Calls Tryd.prog 53 #[.pointer (some ⟨br, 0, none⟩), .agg (byteVals (partly G n)).toArray, .int .i64 n] W fun e w' => e = .returned (.tuple #[]) ∧ ∃ ov', Rd B br bd off cap d most w' q ov' (out ++ (a85Out V).take (n - 1)) ∧ Kept 5 B [br] W w') := fun W q hq => putShort_part hq G hG n hn hn2 hg V hV hm ho
  have hbr := lt_of_block h.blk
  have hlen := h.cp
  have hlc := h.lc
  have hb0 : (w.alloc (.cells (byteVals (partly G 0)).toArray 61 (0, 0))).heap[w.heap.size]? = some (.cells (byteVals (partly G 0)).toArray 61 (0, 0)) := blk_new _ _
  have e0 : (byteVals (partly G 0)).toArray = #[.int .u8 0, .int .u8 0, .int .u8 0, .int .u8 0, .int .u8 0] := by
    rw [partly_zero, hG]; rfl
  rw [e0] at hb0
  have HB0 := hide hb0
  have E0 := hide e0
  have HR0 := hide (h.alloc (.cells #[.int .u8 0, .int .u8 0, .int .u8 0, .int .u8 0, .int .u8 0] 61 (0, 0)))
  clear hd hg he1 he2 hV hm hb0 e0 h
  go_enter Tryd.func33, Tryd.ntmps33
  go_wp2
  go_loopw [7] (fun i wr => ∃ k : Nat, k ≤ n ∧ i = .int .i64 k ∧ wr.heap[w.heap.size]? = some (.cells (byteVals (partly G k)).toArray 61 (0, 0)) ∧ Rd B br bd off cap d most wr (p + k) ov out ∧ Kept 5 B [br] w wr) (fun i _ => 5 - (intOf i).toNat)
  case atStart => exact ⟨0, by omega, rfl, by rw [E0.out]; exact HB0.out, HR0.out, (Kept.refl _ _ _ _).alloc _⟩
  clear HB0 E0 HR0
  case round =>
    obtain ⟨k, hk, rfl, hb, hr, kk⟩ := hrel
    have lit0 : (({ data := #[126, 62] } : ByteArray)[0]'(by decide)).toNat = 126 := rfl
    have lit1 : (({ data := #[126, 62] } : ByteArray)[1]'(by decide)).toNat = 62 := rfl
    have hbB := hr.hB
    have hBb := hr.hb
    by_cases hkn : k < n
    · have hg := HG.out k hkn
      have HN := hide (nextInk_ok hr (by omega) (by rw [HD.out k hkn]; exact dig_white _ (by omega) (by omega)))
      rw [HD.out k hkn] at HN
      have HST := hide (partly_step G k (by omega))
      have hlp : (partly G k).length = 5 := by rw [partly_length, hG]
      generalize nth G k = g at *
      have e1 : ((g : Int) == 126) = false := by simp; omega
      have e2 : ((g : Int) == 122) = false := by simp; omega
      have HBK := hide hb
      have HKK := hide kk
      have hk5 : k < 5 := by omega
      clear hb kk hr
      go_wp2_with fail
      refine HN.out.mono ?_
      rintro e w1 ⟨rfl, r1, k1⟩
      have hb1 := k1.block w.heap.size _ (by simp; omega) HBK.out (Or.inr (by intro c fz e; simp at e))
      obtain ⟨x, hx⟩ : ∃ x, w1.cell? ⟨w.heap.size, k, none⟩ = some x := by
        rw [cell_blk hb1]
        exact ⟨_, Array.getElem?_eq_getElem (by simp [byteVals, hlp]; omega)⟩
      have fx : w1.frozen? ⟨w.heap.size, k, none⟩ = false := free_blk hb1
      have HB2 : Hid ((w1.setCell ⟨w.heap.size, k, none⟩ (.int .u8 (g : Nat))).heap[w.heap.size]? = some (.cells (byteVals (partly G (k + 1))).toArray 61 (0, 0))) := by
        unfold Hid
        rw [blk_setCell _ hb1, HST.out]
        exact congrArg (fun C => some (Obj.cells C 61 (0, 0))) (byteVals_set (partly G k) k g)
      have HR2 := hide (r1.other (i := k) hb1 (by decide) (by omega) (by omega) (.int .u8 (g : Nat)))
      have HK2 := hide (Kept.setNew (HKK.out.trans k1) (q := ⟨w.heap.size, k, none⟩) (Nat.le_refl _) (.int .u8 (g : Nat)))
      clear r1 k1 hb1 HBK HKK HN HST
      go_wp2_with (first | (go_at_call 54; refine (within_byte_yes _ _ _ _ (by omega) (by omega)).mono ?_; rintro e w' ⟨rfl, rfl⟩) | (go_at_call 39; refine (must_yes _).mono ?_; rintro e w' ⟨rfl, rfl⟩))
      go_roundw
      case rel => exact ⟨k + 1, by omega, by go_num, HB2.out, HR2.out, HK2.out⟩
      case measure => simp [intOf]; omega
    · obtain rfl : k = n := by omega
      have HN := hide (nextInk_ok hr (by omega) (by rw [HE1.out]; rfl))
      rw [HE1.out] at HN
      have hk5 : (k : Int) < 5 := by omega
      have HBK := hide hb
      have HKK := hide kk
      clear hb kk hr
      go_wp2_with fail
      refine HN.out.mono ?_
      rintro e w1 ⟨rfl, r1, k1⟩
      have hb1 := hide (k1.block w.heap.size _ (by simp; omega) HBK.out (Or.inr (by intro c fz e; simp at e)))
      have K1 := hide (HKK.out.trans k1)
      have HN2 := hide (next_ok (w := w1.drew) (r1.drewN 1) (by omega))
      rw [show p + k + 1 = p + k + 1 from rfl, HE2.out] at HN2
      clear r1 k1 HBK HKK HN
      go_wp2_with fail
      go_region_with (first | (go_at_call 52; refine HN2.out.mono ?_; rintro e w2 ⟨rfl, r2, k2⟩) | (go_at_call 39; refine (must_yes _).mono ?_; rintro e w' ⟨rfl, rfl⟩))
      all_goals (
        have HR2 := hide r2
        have hb2 := k2.block w.heap.size _ (by simp; omega) (show w1.drew.heap[w.heap.size]? = _ from hb1.out) (Or.inr (by intro c fz e; simp at e))
        have K2 := hide ((K1.out.drew).trans k2)
        have hcs := range_of_blk hb2
        have hi5 : Hid ((Tryd.prog.info? 61).map (·.size) = some (byteVals (partly G k)).length) := by
          unfold Hid byteVals; rw [List.length_map, partly_length, hG]; kernel_rfl
        clear r2 k2 hb2
        go_wp2_with (refine wpList_load_mid rfl 61 (.tmp 3) rfl w.heap.size 0 rfl _ _ hcs.out Tryd.underlying61 rfl hi5.out ?_)
        refine (HPS.out _ _ HR2.out).mono ?_
        rintro e w3 ⟨rfl, ov3, r3, k3⟩
        go_wp2
        go_ret
        exact ⟨rfl, ov3, r3, K2.out.trans k3⟩)
end Go.Proofs.YtgkljcmjnphpeaaDoor
