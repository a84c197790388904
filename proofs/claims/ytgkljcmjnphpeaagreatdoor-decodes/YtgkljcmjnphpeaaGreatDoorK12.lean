/- The document's answer (package folioref): what is decoded, in memory; its smallest methods. -/
import Derived.Test.YtgkljcmjnphpeaaGreatDoorK07
import Derived.Test.YtgkljcmjnphpeaaGreatDoorK01
import Derived.Test.YtgkljcmjnphpeaaGreatDoorK06
import Derived.Deep.MidRow
set_option linter.unusedVariables false
set_option linter.unusedSimpArgs false
namespace Go.Proofs.YtgkljcmjnphpeaaGreatDoor
open Go.RowKit
variable {w : World}
/-- What digits mean, counted by 85. -/
def a85V : List Nat → Nat → Nat
  | [], n => n
  | d :: ds, n => a85V ds (n * 85 + (d - 33))
def a85Out (V : Nat) : List Nat := [V / 16777216, V / 65536 % 256, V / 256 % 256, V % 256]
theorem within_u64_yes (n a b : Int) (w : World) (h1 : a ≤ n) (h2 : n ≤ b) : Calls Tryz.prog 277 #[.int .u64 n, .int .u64 a, .int .u64 b] w fun e w' => e = .returned (.bool true) ∧ w' = w := by
  go_enter Tryz.func277, Tryz.ntmps277
  go_wp2
  go_ret
  exact ⟨rfl, rfl⟩
theorem run_index5_0 (a0 a1 a2 a3 a4 : Nat) (W : World) : (Instr.index 184 (.agg #[.int .u8 (a0 : Nat), .int .u8 (a1 : Nat), .int .u8 (a2 : Nat), .int .u8 (a3 : Nat), .int .u8 (a4 : Nat)]) (.int .i64 0)).run Tryz.prog W = .ok (.int .u8 (a0 : Nat)) W := by kernel_rfl
theorem run_index5_1 (a0 a1 a2 a3 a4 : Nat) (W : World) : (Instr.index 184 (.agg #[.int .u8 (a0 : Nat), .int .u8 (a1 : Nat), .int .u8 (a2 : Nat), .int .u8 (a3 : Nat), .int .u8 (a4 : Nat)]) (.int .i64 1)).run Tryz.prog W = .ok (.int .u8 (a1 : Nat)) W := by kernel_rfl
theorem run_index5_2 (a0 a1 a2 a3 a4 : Nat) (W : World) : (Instr.index 184 (.agg #[.int .u8 (a0 : Nat), .int .u8 (a1 : Nat), .int .u8 (a2 : Nat), .int .u8 (a3 : Nat), .int .u8 (a4 : Nat)]) (.int .i64 2)).run Tryz.prog W = .ok (.int .u8 (a2 : Nat)) W := by kernel_rfl
theorem run_index5_3 (a0 a1 a2 a3 a4 : Nat) (W : World) : (Instr.index 184 (.agg #[.int .u8 (a0 : Nat), .int .u8 (a1 : Nat), .int .u8 (a2 : Nat), .int .u8 (a3 : Nat), .int .u8 (a4 : Nat)]) (.int .i64 3)).run Tryz.prog W = .ok (.int .u8 (a3 : Nat)) W := by kernel_rfl
theorem run_index5_4 (a0 a1 a2 a3 a4 : Nat) (W : World) : (Instr.index 184 (.agg #[.int .u8 (a0 : Nat), .int .u8 (a1 : Nat), .int .u8 (a2 : Nat), .int .u8 (a3 : Nat), .int .u8 (a4 : Nat)]) (.int .i64 4)).run Tryz.prog W = .ok (.int .u8 (a4 : Nat)) W := by kernel_rfl
/-- Counted so far. -/
def pv (P1 P2 P3 P4 V : Nat) : Nat → Nat
  | 0 => 0
  | 1 => P1
  | 2 => P2
  | 3 => P3
  | 4 => P4
  | _ => V
set_option maxRecDepth 100000 in
set_option maxHeartbeats 1000000 in
theorem a85Bytes_ok (g0 g1 g2 g3 g4 : Nat) (h0 : 33 ≤ g0 ∧ g0 ≤ 117) (h1 : 33 ≤ g1 ∧ g1 ≤ 117) (h2 : 33 ≤ g2 ∧ g2 ≤ 117) (h3 : 33 ≤ g3 ∧ g3 ≤ 117) (h4 : 33 ≤ g4 ∧ g4 ≤ 117) (V : Nat) (hV : a85V [g0, g1, g2, g3, g4] 0 = V) (hm : V ≤ 4294967295) (w : World) :
    Calls Tryz.prog 217 #[.agg #[.int .u8 g0, .int .u8 g1, .int .u8 g2, .int .u8 g3, .int .u8 g4]] w fun e w' => e = .returned (.agg ((a85Out V).map fun x : Nat => Value.int .u8 (x : Int)).toArray) ∧ Below w.heap.size w w' := by
  obtain ⟨P1, e1⟩ : ∃ P1, P1 = g0 - 33 := ⟨_, rfl⟩
  obtain ⟨P2, e2⟩ : ∃ P2, P2 = P1 * 85 + (g1 - 33) := ⟨_, rfl⟩
  obtain ⟨P3, e3⟩ : ∃ P3, P3 = P2 * 85 + (g2 - 33) := ⟨_, rfl⟩
  obtain ⟨P4, e4⟩ : ∃ P4, P4 = P3 * 85 + (g3 - 33) := ⟨_, rfl⟩
  have e5 : V = P4 * 85 + (g4 - 33) := by
    rw [e4, e3, e2, e1, ← hV]
    show ((((0 * 85 + (g0 - 33)) * 85 + (g1 - 33)) * 85 + (g2 - 33)) * 85 + (g3 - 33)) * 85 + (g4 - 33) = _
    rw [Nat.zero_mul, Nat.zero_add]
  have b1 : P1 ≤ 84 := by omega
  have b2 : P2 ≤ 7224 := by omega
  have b3 : P3 ≤ 614124 := by omega
  have b4 : P4 ≤ 52200624 := by omega
  have E := hide (And.intro e1 (And.intro e2 (And.intro e3 (And.intro e4 e5))))
  clear hV e1 e2 e3 e4 e5
  go_enter Tryz.func217, Tryz.ntmps217
  go_wp2
  generalize hW : World.alloc (World.alloc w _) _ = W
  have hbW : Below w.heap.size w W := by rw [← hW]; exact (((Below.refl _ _).alloc (Nat.le_refl _) _).alloc (by simp) _)
  have hblk : W.heap[w.heap.size + 1]? = some (.cells #[.int .u8 0, .int .u8 0, .int .u8 0, .int .u8 0] 153 (0, 0)) := by
    rw [← hW]
    have := blk_new (w.alloc (.cells #[.int .u8 g0, .int .u8 g1, .int .u8 g2, .int .u8 g3, .int .u8 g4] 184)) (.cells #[.int .u8 0, .int .u8 0, .int .u8 0, .int .u8 0] 153 (0, 0))
    simpa using this
  have HBW := hide hbW
  have HBK := hide hblk
  clear hW hbW hblk
  go_loopw [3, 7] (fun n i wr => ∃ k : Nat, k ≤ 5 ∧ i = .int .i64 k ∧ n = .int .u64 (pv P1 P2 P3 P4 V k : Nat) ∧ wr = W) (fun _ i _ => 5 - (intOf i).toNat)
  case atStart => exact ⟨0, by omega, rfl, rfl, rfl⟩
  case round =>
    obtain ⟨k, hk, rfl, rfl, rfl⟩ := hrel
    obtain rfl | rfl | rfl | rfl | rfl | rfl : k = 0 ∨ k = 1 ∨ k = 2 ∨ k = 3 ∨ k = 4 ∨ k = 5 := by omega
    · have hix := run_index5_0 g0 g1 g2 g3 g4
      simp only [pv]
      go_wp2
      go_roundw
      case rel =>
        refine ⟨1, by omega, rfl, ?_, trivial⟩
        show Value.int .u64 _ = Value.int .u64 (P1 : Nat)
        congr 1
        have := E.out
        omega
      case measure => simp [intOf]
    · have hix := run_index5_1 g0 g1 g2 g3 g4
      simp only [pv]
      go_wp2
      go_roundw
      case rel =>
        refine ⟨2, by omega, rfl, ?_, trivial⟩
        show Value.int .u64 _ = Value.int .u64 (P2 : Nat)
        congr 1
        have := E.out
        omega
      case measure => simp [intOf]
    · have hix := run_index5_2 g0 g1 g2 g3 g4
      simp only [pv]
      go_wp2
      go_roundw
      case rel =>
        refine ⟨3, by omega, rfl, ?_, trivial⟩
        show Value.int .u64 _ = Value.int .u64 (P3 : Nat)
        congr 1
        have := E.out
        omega
      case measure => simp [intOf]
    · have hix := run_index5_3 g0 g1 g2 g3 g4
      simp only [pv]
      go_wp2
      go_roundw
      case rel =>
        refine ⟨4, by omega, rfl, ?_, trivial⟩
        show Value.int .u64 _ = Value.int .u64 (P4 : Nat)
        congr 1
        have := E.out
        omega
      case measure => simp [intOf]
    · have hix := run_index5_4 g0 g1 g2 g3 g4
      simp only [pv]
      go_wp2
      go_roundw
      case rel =>
        refine ⟨5, by omega, rfl, ?_, trivial⟩
        show Value.int .u64 _ = Value.int .u64 (V : Nat)
        congr 1
        have := E.out
        omega
      case measure => simp [intOf]
    · simp only [pv]
      have n0 : wr.cell? ⟨w.heap.size + 1, 0, none⟩ = some (.int .u8 0) := by rw [cell_blk HBK.out]; rfl
      have n1 : wr.cell? ⟨w.heap.size + 1, 1, none⟩ = some (.int .u8 0) := by rw [cell_blk HBK.out]; rfl
      have n2 : wr.cell? ⟨w.heap.size + 1, 2, none⟩ = some (.int .u8 0) := by rw [cell_blk HBK.out]; rfl
      have n3 : wr.cell? ⟨w.heap.size + 1, 3, none⟩ = some (.int .u8 0) := by rw [cell_blk HBK.out]; rfl
      have f0 : wr.frozen? ⟨w.heap.size + 1, 0, none⟩ = false := free_blk HBK.out
      have f1 : wr.frozen? ⟨w.heap.size + 1, 1, none⟩ = false := free_blk HBK.out
      have f2 : wr.frozen? ⟨w.heap.size + 1, 2, none⟩ = false := free_blk HBK.out
      have f3 : wr.frozen? ⟨w.heap.size + 1, 3, none⟩ = false := free_blk HBK.out
      have hfin : Hid (((((wr.setCell ⟨w.heap.size + 1, 0, none⟩ (.int .u8 (V / 16777216 : Nat))).setCell ⟨w.heap.size + 1, 1, none⟩ (.int .u8 (V / 65536 % 256 : Nat))).setCell ⟨w.heap.size + 1, 2, none⟩ (.int .u8 (V / 256 % 256 : Nat))).setCell ⟨w.heap.size + 1, 3, none⟩ (.int .u8 (V % 256 : Nat))).heap[w.heap.size + 1]? = some (.cells ((a85Out V).map fun x : Nat => Value.int .u8 (x : Int)).toArray 153 (0, 0))) := by
        unfold Hid
        exact blk_setCell _ (blk_setCell _ (blk_setCell _ (blk_setCell _ HBK.out)))
      have hbel : Hid (Below w.heap.size w ((((wr.setCell ⟨w.heap.size + 1, 0, none⟩ (.int .u8 (V / 16777216 : Nat))).setCell ⟨w.heap.size + 1, 1, none⟩ (.int .u8 (V / 65536 % 256 : Nat))).setCell ⟨w.heap.size + 1, 2, none⟩ (.int .u8 (V / 256 % 256 : Nat))).setCell ⟨w.heap.size + 1, 3, none⟩ (.int .u8 (V % 256 : Nat)))) :=
        hide ((((HBW.out.setCell (p := ⟨w.heap.size + 1, 0, none⟩) (by simp) _).setCell (p := ⟨w.heap.size + 1, 1, none⟩) (by simp) _).setCell (p := ⟨w.heap.size + 1, 2, none⟩) (by simp) _).setCell (p := ⟨w.heap.size + 1, 3, none⟩) (by simp) _)
      have x0 : Hid ((V : Int) / 16777216 = (V / 16777216 : Nat)) := hide rfl
      go_wp2_with (first | (go_at_call 277; refine (within_u64_yes _ _ _ _ (by omega) (by omega)).mono ?_; rintro e w' ⟨rfl, rfl⟩) | (go_at_call 163; refine (must_yes _).mono ?_; rintro e w' ⟨rfl, rfl⟩))
      refine bodyPost_ret (v := .agg ((a85Out V).map fun x : Nat => Value.int .u8 (x : Int)).toArray) ?_ rfl ⟨rfl, hbel.out⟩
      exact results_cell_row Tryz.results217 _ _ (w.heap.size + 1) 153 _ _ _ rfl hfin.out Tryz.underlying153 rfl (by kernel_rfl)
end Go.Proofs.YtgkljcmjnphpeaaGreatDoor
/- putShort: what the last digits mean. -/
namespace Go.Proofs.YtgkljcmjnphpeaaGreatDoor
open Go.RowKit
variable {B br bd off cap : Nat} {d : List Nat} {most : Nat} {w : World} {p : Nat} {ov : Value} {out : List Nat}
def byteVals (l : List Nat) : List Value := l.map fun x : Nat => Value.int .u8 (x : Int)
/-- Digits from a place on filled up by the last one. -/
def fill5 (ds : List Nat) : Nat → Nat → List Nat
  | 0, _ => ds
  | f + 1, k => fill5 (ds.set k 117) f (k + 1)
theorem fill5_eq (g0 g1 g2 g3 g4 n : Nat) (hn : 2 ≤ n) (hn2 : n ≤ 4) : fill5 [g0, g1, g2, g3, g4] (5 - n) n = [g0, g1, if n ≤ 2 then 117 else g2, if n ≤ 3 then 117 else g3, 117] := by
  obtain rfl | rfl | rfl : n = 2 ∨ n = 3 ∨ n = 4 := by omega
  · rfl
  · rfl
  · rfl
theorem byteVals_set (l : List Nat) (k x : Nat) : ((byteVals l).toArray.setIfInBounds k (.int .u8 (x : Int))) = (byteVals (l.set k x)).toArray := by
  unfold byteVals
  rw [List.map_set]; simp
theorem run_slice43_1 (b : Nat) (W : World) : (Instr.sliceAt 153 (.pointer (some ⟨b, 0, none⟩)) none (some (.int .i64 1)) none).run Tryz.prog W = .ok (.slice (some ⟨b, 0, none⟩) 1 4) W := by kernel_rfl
theorem run_slice43_2 (b : Nat) (W : World) : (Instr.sliceAt 153 (.pointer (some ⟨b, 0, none⟩)) none (some (.int .i64 2)) none).run Tryz.prog W = .ok (.slice (some ⟨b, 0, none⟩) 2 4) W := by kernel_rfl
theorem run_slice43_3 (b : Nat) (W : World) : (Instr.sliceAt 153 (.pointer (some ⟨b, 0, none⟩)) none (some (.int .i64 3)) none).run Tryz.prog W = .ok (.slice (some ⟨b, 0, none⟩) 3 4) W := by kernel_rfl
theorem run_slice43 (b n : Nat) (hn : 2 ≤ n) (hn2 : n ≤ 4) (W : World) : (Instr.sliceAt 153 (.pointer (some ⟨b, 0, none⟩)) none (some (.int .i64 ((n : Int) - 1))) none).run Tryz.prog W = .ok (.slice (some ⟨b, 0, none⟩) (n - 1) 4) W := by
  obtain rfl | rfl | rfl : n = 2 ∨ n = 3 ∨ n = 4 := by omega
  · exact run_slice43_1 b W
  · exact run_slice43_2 b W
  · exact run_slice43_3 b W
set_option maxRecDepth 100000 in
set_option maxHeartbeats 1000000 in
theorem putShort_ok (h : Rd B br bd off cap d most w p ov out) (g0 g1 g2 g3 g4 n : Nat) (hn : 2 ≤ n) (hn2 : n ≤ 4) (h0 : 33 ≤ g0 ∧ g0 ≤ 117) (h1 : 33 ≤ g1 ∧ g1 ≤ 117) (h2 : 33 ≤ (if n ≤ 2 then 117 else g2) ∧ (if n ≤ 2 then 117 else g2) ≤ 117) (h3 : 33 ≤ (if n ≤ 3 then 117 else g3) ∧ (if n ≤ 3 then 117 else g3) ≤ 117)
    (V : Nat) (hV : a85V [g0, g1, if n ≤ 2 then 117 else g2, if n ≤ 3 then 117 else g3, 117] 0 = V) (hm : V ≤ 4294967295) (ho : out.length + (n - 1) ≤ most) :
    Calls Tryz.prog 215 #[.pointer (some ⟨br, 0, none⟩), .agg (byteVals [g0, g1, g2, g3, g4]).toArray, .int .i64 n] w fun e w' => e = .returned (.tuple #[]) ∧ ∃ ov', Rd B br bd off cap d most w' p ov' (out ++ (a85Out V).take (n - 1)) ∧ Kept 5 B [br] w w' := by
  have HF := hide (fill5_eq g0 g1 g2 g3 g4 n hn hn2)
  have HB : Hid (∀ W : World, Calls Tryz.prog 217 #[.agg (byteVals [g0, g1, if n ≤ 2 then 117 else g2, if n ≤ 3 then 117 else g3, 117]).toArray] W fun e w' => e = .returned (.agg #[.int .u8 (V / 16777216 : Nat), .int .u8 (V / 65536 % 256 : Nat), .int .u8 (V / 256 % 256 : Nat), .int .u8 (V % 256 : Nat)]) ∧ Below W.heap.size W w') := fun W => a85Bytes_ok g0 g1 _ _ 117 h0 h1 h2 h3 (by omega) V hV hm W
  clear h0 h1 h2 h3 hV
  generalize hR : [g0, g1, if n ≤ 2 then 117 else g2, if n ≤ 3 then 117 else g3, 117] = R at *
  have hR5 : R.length = 5 := by rw [← hR]; rfl
  have HR := hide hR
  have hbox : (w.alloc (.cells (byteVals [g0, g1, g2, g3, g4]).toArray 184)).heap[w.heap.size]? = some (.cells (byteVals [g0, g1, g2, g3, g4]).toArray 184 (0, 0)) := blk_new _ _
  have h5 : [g0, g1, g2, g3, g4].length = 5 := rfl
  generalize [g0, g1, g2, g3, g4] = D at *
  clear hR
  have hne0 : ((n : Int) == 0) = false := by simp; omega
  have hn1 : (1 : Int) < n := by omega
  go_enter Tryz.func215, Tryz.ntmps215
  go_wp2_with (go_at_call 163; refine (must_yes _).mono ?_; rintro e w' ⟨rfl, rfl⟩)
  go_loopw [6] (fun i wr => ∃ (k : Nat) (E : List Nat), n ≤ k ∧ k ≤ 5 ∧ i = .int .i64 k ∧ E.length = 5 ∧ Hid (fill5 E (5 - k) k = R) ∧ wr.heap[w.heap.size]? = some (.cells (byteVals E).toArray 184 (0, 0)) ∧ Below w.heap.size w wr) (fun i _ => 5 - (intOf i).toNat)
  case atStart => exact ⟨n, D, Nat.le_refl _, by omega, rfl, h5, HF, hbox, (Below.refl _ _).alloc (Nat.le_refl _) _⟩
  clear hbox HF
  case round =>
    obtain ⟨k, E, k1, k2, rfl, hE, HK, hb, bl⟩ := hrel
    by_cases hk : k < 5
    · obtain ⟨x, hx⟩ : ∃ x, wr.cell? ⟨w.heap.size, k, none⟩ = some x := by
        rw [cell_blk hb]
        exact ⟨_, Array.getElem?_eq_getElem (by simp [byteVals, hE]; omega)⟩
      have fx : wr.frozen? ⟨w.heap.size, k, none⟩ = false := free_blk hb
      have hk' : (k : Int) < 5 := by omega
      have HB2 : Hid ((wr.setCell ⟨w.heap.size, k, none⟩ (.int .u8 117)).heap[w.heap.size]? = some (.cells (byteVals (E.set k 117)).toArray 184 (0, 0))) := by
        unfold Hid
        rw [blk_setCell _ hb]
        exact congrArg (fun C => some (Obj.cells C 184 (0, 0))) (byteVals_set E k 117)
      have HBL := hide bl
      clear hb bl
      go_wp2
      go_roundw
      case rel =>
        refine ⟨k + 1, E.set k 117, by omega, by omega, by go_num, by rw [List.length_set]; exact hE, ?_, HB2.out, HBL.out.setCell (Nat.le_refl _) _⟩
        have := HK.out
        rw [show 5 - k = (5 - (k + 1)) + 1 by omega, fill5] at this
        exact this
      case measure => simp [intOf]; omega
    · obtain rfl : k = 5 := by omega
      obtain rfl : E = R := HK.out
      have hcs : Hid (wr.rangeAt w.heap.size 0 (byteVals E)) := by
        intro j v hj
        rw [cell_blk hb, Nat.zero_add]
        simpa using hj
      have hi5 : Hid ((Tryz.prog.info? 184).map (·.size) = some (byteVals E).length) := by
        unfold Hid byteVals; rw [List.length_map, hE]; kernel_rfl
      have HBL := hide bl
      have hsz := bl.size
      clear hb bl HK
      go_wp2_with (refine wpList_load_mid rfl 184 (.tmp 4) rfl w.heap.size 0 rfl _ _ hcs.out Tryz.underlying184 rfl hi5.out ?_)
      refine (HB.out _).mono ?_
      rintro e w1 ⟨rfl, b1⟩
      have HR1 := hide ((h.ofBelow (HBL.out.trans (b1.mono hsz))))
      have K1 := hide (HBL.out.trans (b1.mono hsz))
      clear h HBL b1 HB hcs hi5
      have hsl := run_slice43 w1.heap.size n hn hn2
      have htl : ((a85Out V).take (n - 1)).length = n - 1 := by rw [List.length_take]; show min (n - 1) 4 = _; omega
      have HP := hide (put_ok (HR1.out.alloc (.cells #[.int .u8 (V / 16777216 : Nat), .int .u8 (V / 65536 % 256 : Nat), .int .u8 (V / 256 % 256 : Nat), .int .u8 (V % 256 : Nat)] 153)) ((a85Out V).take (n - 1)) ⟨w1.heap.size, 0, none⟩ 4 (by rw [htl]; exact ho) (by have := HR1.out.sz; simp; omega) (by
        intro i hi
        rw [htl] at hi
        rw [addr_add, cell_blk (blk_new _ _)]
        have e : nth ((a85Out V).take (n - 1)) i = nth (a85Out V) i := by simp [nth, List.getElem?_take, hi]
        rw [e]
        have h4 : i < 4 := by omega
        match i, h4 with
        | 0, _ => rfl
        | 1, _ => rfl
        | 2, _ => rfl
        | 3, _ => rfl))
      rw [htl] at HP
      go_wp2_with fail
      refine HP.out.mono ?_
      rintro e w2 ⟨rfl, ov', r2, k2⟩
      go_wp2
      go_end0
      exact ⟨rfl, ov', r2, ((Kept.refl _ _ _ _).trans ⟨K1.out.os, K1.out.tape, K1.out.output, K1.out.size, fun i o _ ho _ => by rw [K1.out.block i (lt_of_block ho)]; exact ho⟩ |>.alloc _).trans k2⟩
end Go.Proofs.YtgkljcmjnphpeaaGreatDoor
namespace Go.Proofs.YtgkljcmjnphpeaaGreatDoor
open Go.RowKit
variable {B br bd off cap : Nat} {d : List Nat} {most : Nat} {w : World} {p : Nat} {ov : Value} {out : List Nat}
theorem Kept.ofBelow' {e B : Nat} {S : List Nat} {a b : World} (k : Below a.heap.size a b) : Kept e B S a b :=
  ⟨k.os, k.tape, k.output, k.size, fun i o _ ho _ => by rw [k.block i (lt_of_block ho)]; exact ho⟩
theorem Kept.setNew {e B : Nat} {S : List Nat} {a w : World} (h : Kept e B S a w) {q : Addr} (hp : a.heap.size ≤ q.block) (u : Value) : Kept e B S a (w.setCell q u) :=
  ⟨h.os, h.tape, h.output, by have := h.size; simpa [World.setCell] using this, fun k o hk ho hc => by
    have := lt_of_block ho
    rw [Below.heap_setCell _ _ _ _ (by omega)]; exact h.block k o hk ho hc⟩
theorem Rd.other {b t i : Nat} {C : Array Value} {fz : Nat × Nat} (h : Rd B br bd off cap d most w p ov out) (hb : w.heap[b]? = some (.cells C t fz)) (ht : t ≠ 5) (h1 : b ≠ br) (h2 : b ≠ bd) (v : Value) : Rd B br bd off cap d most (w.setCell ⟨b, i, none⟩ v) p ov out :=
  ⟨h.hB, h.hb, by rw [blk_setCell_ne _ (fun e => h1 e.symm)]; exact h.blk, fun j hj => by rw [cell_ne _ h2]; exact h.dat j hj, ownsRow_setCell_other h.own (own_ne h.own hb ht) _, h.byt, h.cp, h.lc, h.lm, h.lo, h.lp⟩
theorem range_of_blk {W : World} {b T : Nat} {l : List Nat} {fz : Nat × Nat} (h : W.heap[b]? = some (.cells (byteVals l).toArray T fz)) : Hid (W.rangeAt b 0 (byteVals l)) := by
  intro j v hj
  rw [cell_blk h, Nat.zero_add]
  simpa using hj
def shortV (g0 g1 g2 g3 n : Nat) : Nat := a85V [g0, g1, if n ≤ 2 then 117 else g2, if n ≤ 3 then 117 else g3, 117] 0
theorem putShort_part (h : Rd B br bd off cap d most w p ov out) (G : List Nat) (hG : G.length = 5) (n : Nat) (hn : 2 ≤ n) (hn2 : n ≤ 4) (hg : ∀ i, i < n → 33 ≤ nth G i ∧ nth G i ≤ 117) (V : Nat) (hV : shortV (nth G 0) (nth G 1) (nth G 2) (nth G 3) n = V) (hm : V ≤ 4294967295) (ho : out.length + (n - 1) ≤ most) :
    Calls Tryz.prog 215 #[.pointer (some ⟨br, 0, none⟩), .agg (byteVals (partly G n)).toArray, .int .i64 n] w fun e w' => e = .returned (.tuple #[]) ∧ ∃ ov', Rd B br bd off cap d most w' p ov' (out ++ (a85Out V).take (n - 1)) ∧ Kept 5 B [br] w w' := by
  match G, hG with
  | [g0, g1, g2, g3, g4], _ =>
    have k0 := hg 0 (by omega)
    have k1 := hg 1 (by omega)
    obtain rfl | rfl | rfl : n = 2 ∨ n = 3 ∨ n = 4 := by omega
    · exact putShort_ok h g0 g1 0 0 0 2 (by omega) (by omega) k0 k1 (by simp) (by simp) V hV hm ho
    · have k2 := hg 2 (by omega)
      exact putShort_ok h g0 g1 g2 0 0 3 (by omega) (by omega) k0 k1 k2 (by simp) V hV hm ho
    · have k2 := hg 2 (by omega)
      have k3 := hg 3 (by omega)
      exact putShort_ok h g0 g1 g2 g3 0 4 (by omega) (by omega) k0 k1 k2 k3 V hV hm ho
end Go.Proofs.YtgkljcmjnphpeaaGreatDoor
namespace Go.Proofs.YtgkljcmjnphpeaaGreatDoor
open Go.RowKit
/-- The first place from p on that is not white, or the end. -/
def skipGo (d : List Nat) : Nat → Nat → Nat
  | 0, p => p
  | f + 1, p => if p < d.length ∧ whiteB (nth d p) = true then skipGo d f (p + 1) else p
def skipW (d : List Nat) (p : Nat) : Nat := skipGo d (d.length - p) p
theorem skipGo_ge (d : List Nat) : ∀ f p, p ≤ skipGo d f p
  | 0, p => Nat.le_refl _
  | f + 1, p => by
    unfold skipGo
    split
    · have := skipGo_ge d f (p + 1); omega
    · exact Nat.le_refl _
theorem skipGo_le (d : List Nat) : ∀ f p, p ≤ d.length → skipGo d f p ≤ d.length
  | 0, p, h => h
  | f + 1, p, h => by
    unfold skipGo
    split
    · rename_i c; exact skipGo_le d f (p + 1) (by omega)
    · exact h
theorem skipW_ge (d : List Nat) (p : Nat) : p ≤ skipW d p := skipGo_ge d _ p
theorem skipW_le {d : List Nat} {p : Nat} (h : p ≤ d.length) : skipW d p ≤ d.length := skipGo_le d _ p h
theorem skipW_step {d : List Nat} {p : Nat} (h : p < d.length) (hw : whiteB (nth d p) = true) : skipW d p = skipW d (p + 1) := by
  unfold skipW
  obtain ⟨f, hf⟩ : ∃ f, d.length - p = f + 1 := ⟨d.length - p - 1, by omega⟩
  rw [hf, show d.length - (p + 1) = f by omega]
  conv => lhs; unfold skipGo
  rw [if_pos ⟨h, hw⟩]
theorem skipW_stop {d : List Nat} {p : Nat} (h : ¬ (p < d.length ∧ whiteB (nth d p) = true)) : skipW d p = p := by
  unfold skipW
  cases d.length - p with
  | zero => rfl
  | succ f => unfold skipGo; rw [if_neg h]
/-- What lies behind the end: nothing but white. -/
def restW (d : List Nat) (p : Nat) (o : List Nat) : Except Nat (List Nat) := if skipW d p < d.length then .error 5 else .ok o
def hexDec (d : List Nat) (most : Nat) : Nat → Nat → List Nat → Except Nat (List Nat)
  | 0, _, _ => .error 5
  | f + 1, p, out =>
    if d.length ≤ skipW d p then .error 5
    else if nth d (skipW d p) = 62 then restW d (skipW d p + 1) out
    else match Fo.hexVal (nth d (skipW d p)) with
      | none => .error 5
      | some a =>
        if d.length ≤ skipW d (skipW d p + 1) then .error 5
        else if nth d (skipW d (skipW d p + 1)) = 62 then (if out.length + 1 ≤ most then restW d (skipW d (skipW d p + 1) + 1) (out ++ [16 * a]) else .error 6)
        else match Fo.hexVal (nth d (skipW d (skipW d p + 1))) with
          | none => .error 5
          | some b => if out.length + 1 ≤ most then hexDec d most f (skipW d (skipW d p + 1) + 1) (out ++ [16 * a + b]) else .error 6
def runDec (d : List Nat) (most : Nat) : Nat → Nat → List Nat → Except Nat (List Nat)
  | 0, _, _ => .error 5
  | f + 1, p, out =>
    if d.length ≤ p then .error 5
    else if nth d p = 128 then (if p + 1 < d.length then .error 5 else .ok out)
    else if nth d p < 128 then
      if p + 1 + (nth d p + 1) ≤ d.length then
        (if out.length + (nth d p + 1) ≤ most then runDec d most f (p + 1 + (nth d p + 1)) (out ++ (d.drop (p + 1)).take (nth d p + 1)) else .error 6)
      else .error 5
    else if p + 1 < d.length then
      (if out.length + (257 - nth d p) ≤ most then runDec d most f (p + 2) (out ++ List.replicate (257 - nth d p) (nth d (p + 1))) else .error 6)
    else .error 5
/-- What digits mean with the greatest digits behind them, up to five. -/
def pad85 (n k : Nat) : Nat := if k = 2 then ((n * 85 + 84) * 85 + 84) * 85 + 84 else if k = 3 then (n * 85 + 84) * 85 + 84 else n * 85 + 84
def a85Dec (d : List Nat) (most : Nat) : Nat → Nat → Nat → Nat → List Nat → Except Nat (List Nat)
  | 0, _, _, _, _ => .error 5
  | f + 1, p, k, n, out =>
    if d.length ≤ skipW d p then .error 5
    else if nth d (skipW d p) = 122 ∧ k = 0 then (if out.length + 4 ≤ most then a85Dec d most f (skipW d p + 1) 0 0 (out ++ [0, 0, 0, 0]) else .error 6)
    else if 33 ≤ nth d (skipW d p) ∧ nth d (skipW d p) ≤ 117 then
      if k = 4 then
        (if 4294967296 ≤ n * 85 + (nth d (skipW d p) - 33) then .error 5
        else if out.length + 4 ≤ most then a85Dec d most f (skipW d p + 1) 0 0 (out ++ a85Out (n * 85 + (nth d (skipW d p) - 33))) else .error 6)
      else a85Dec d most f (skipW d p + 1) (k + 1) (n * 85 + (nth d (skipW d p) - 33)) out
    else if nth d (skipW d p) = 126 ∧ skipW d p + 1 < d.length ∧ nth d (skipW d p + 1) = 62 ∧ k ≠ 1 then
      if k = 0 then restW d (skipW d p + 2) out
      else if 4294967296 ≤ pad85 n k then .error 5
      else if out.length + (k - 1) ≤ most then restW d (skipW d p + 2) (out ++ (a85Out (pad85 n k)).take (k - 1)) else .error 6
    else .error 5
end Go.Proofs.YtgkljcmjnphpeaaGreatDoor
namespace Go.Proofs.YtgkljcmjnphpeaaGreatDoor
open Go.RowKit
/-- A string's bytes. -/
def bl (S : ByteArray) : List Nat := S.data.toList.map UInt8.toNat
theorem bl_len (S : ByteArray) : (bl S).length = S.size := by
  rw [bl, List.length_map, Array.length_toList]; rfl
theorem bl_nth (S : ByteArray) (i : Nat) (h : i < S.size) : (S[i]'h).toNat = nth (bl S) i := by
  have h2 : i < S.data.size := h
  simp only [bl, nth, List.getD_eq_getElem?_getD, List.getElem?_map]
  rw [List.getElem?_eq_getElem (by simpa using h2)]
  simp; rfl
theorem bl_lt (S : ByteArray) (i : Nat) (h : i < S.size) : nth (bl S) i < 256 := by
  rw [← bl_nth S i h]; exact UInt8.toNat_lt _
/-- What is decoded, in memory. -/
structure RIn (B b : Nat) (S : ByteArray) (most : Nat) (w : World) (p : Nat) (ov : Value) (out : List Nat) (e : Nat) : Prop where
  hb : B ≤ b
  blk : w.heap[b]? = some (.cells #[.string S, .int .i64 p, ov, .int .i64 most, .int .i64 e] 106 (0, 0))
  own : w.ownsRow B 5 1 ov out.length (out.map fun x : Nat => .int .u8 (x : Int))
  lm : most ≤ 1000000
  ls : S.size ≤ 10000000
  lp : p ≤ 8 * S.size + 8
  lo : out.length ≤ most
  le : e ≤ 6
variable {B b : Nat} {S : ByteArray} {most : Nat} {w : World} {p : Nat} {ov : Value} {out : List Nat} {e : Nat}
theorem RIn.c0 (h : RIn B b S most w p ov out e) : w.cell? ⟨b, 0, none⟩ = some (.string S) := by rw [cell_blk h.blk]; rfl
theorem RIn.c1 (h : RIn B b S most w p ov out e) : w.cell? ⟨b, 1, none⟩ = some (.int .i64 p) := by rw [cell_blk h.blk]; rfl
theorem RIn.c2 (h : RIn B b S most w p ov out e) : w.cell? ⟨b, 2, none⟩ = some ov := by rw [cell_blk h.blk]; rfl
theorem RIn.c3 (h : RIn B b S most w p ov out e) : w.cell? ⟨b, 3, none⟩ = some (.int .i64 most) := by rw [cell_blk h.blk]; rfl
theorem RIn.c4 (h : RIn B b S most w p ov out e) : w.cell? ⟨b, 4, none⟩ = some (.int .i64 e) := by rw [cell_blk h.blk]; rfl
theorem RIn.fz (h : RIn B b S most w p ov out e) (i : Nat) : w.frozen? ⟨b, i, none⟩ = false := free_blk h.blk
theorem RIn.sz (h : RIn B b S most w p ov out e) : B < w.heap.size := by have := h.hb; have := lt_of_block h.blk; omega
theorem RIn.drewN (h : RIn B b S most w p ov out e) (n : Nat) : RIn B b S most (w.drewN n) p ov out e := ⟨h.hb, h.blk, h.own, h.lm, h.ls, h.lp, h.lo, h.le⟩
theorem RIn.alloc (h : RIn B b S most w p ov out e) (o : Obj) : RIn B b S most (w.alloc o) p ov out e := ⟨h.hb, blk_alloc _ h.blk, h.own.alloc _, h.lm, h.ls, h.lp, h.lo, h.le⟩
theorem RIn.set1 (h : RIn B b S most w p ov out e) (q : Nat) (hq : q ≤ 8 * S.size + 8) : RIn B b S most (w.setCell ⟨b, 1, none⟩ (.int .i64 q)) q ov out e :=
  ⟨h.hb, by rw [blk_setCell _ h.blk]; rfl, ownsRow_setCell_other h.own (own_ne h.own h.blk (by decide)) _, h.lm, h.ls, hq, h.lo, h.le⟩
theorem RIn.set4 (h : RIn B b S most w p ov out e) (q : Nat) (hq : q ≤ 6) : RIn B b S most (w.setCell ⟨b, 4, none⟩ (.int .i64 q)) p ov out q :=
  ⟨h.hb, by rw [blk_setCell _ h.blk]; rfl, ownsRow_setCell_other h.own (own_ne h.own h.blk (by decide)) _, h.lm, h.ls, h.lp, h.lo, hq⟩
theorem RIn.grown_blk (h : RIn B b S most w p ov out e) {w1 : World} (hg : w.grownBy w1 ov.ownBlock) :
    w1.heap[b]? = some (.cells #[.string S, .int .i64 p, ov, .int .i64 most, .int .i64 e] 106 (0, 0)) := by
  rw [hg.block b (lt_of_block h.blk) (fun c => own_ne h.own h.blk (by decide) c.symm)]; exact h.blk
theorem RIn.put (h : RIn B b S most w p ov out e) {w1 : World} {v : Value} {xs : List Nat} (ho : out.length + xs.length ≤ most)
    (hown : w1.ownsRow B 5 1 v (out.length + xs.length) ((out.map fun x : Nat => .int .u8 (x : Int)) ++ (xs.map fun x : Nat => .int .u8 (x : Int)))) (hg : w.grownBy w1 ov.ownBlock) :
    RIn B b S most (w1.setCell ⟨b, 2, none⟩ v) p v (out ++ xs) e := by
  have hk := h.grown_blk hg
  refine ⟨h.hb, ?_, ?_, h.lm, h.ls, h.lp, by simpa using ho, h.le⟩
  · rw [blk_setCell _ hk]; rfl
  · rw [List.length_append, List.map_append]
    exact ownsRow_setCell_other hown (own_ne hown hk (by decide)) _
theorem RIn.ofBelow {w1 : World} (h : RIn B b S most w p ov out e) (k : Below w.heap.size w w1) : RIn B b S most w1 p ov out e := by
  refine ⟨h.hb, ?_, ?_, h.lm, h.ls, h.lp, h.lo, h.le⟩
  · rw [k.block _ (lt_of_block h.blk)]; exact h.blk
  · exact own_below' h.own k
 where
  own_below' {B : Nat} {e : TypeId} {k : Nat} {v : Value} {n : Nat} {xs : List Value} {w w' : World} (h : w.ownsRow B e k v n xs) (b : Below w.heap.size w w') : w'.ownsRow B e k v n xs := by
    obtain ⟨h1, h2⟩ := h
    refine ⟨h1, ?_⟩
    rcases h2 with h2 | ⟨g, c, cur, e1, e2, hh, hc⟩
    · exact Or.inl h2
    · exact Or.inr ⟨g, c, cur, e1, e2, by rw [b.block _ (lt_of_block hh)]; exact hh, hc⟩
/-- Where it stands. -/
theorem RIn.posOf (h : RIn B b S most w p ov out e) : posOf b w = p := by unfold Go.Proofs.YtgkljcmjnphpeaaGreatDoor.posOf; rw [h.c1]; simp [intOf]
/-- The first error stays. -/
def rno (n e : Nat) : Nat := if e = 0 then n else e
theorem rno_ok (h : RIn B b S most w p ov out e) (n : Nat) (hn : n ≤ 6) :
    Calls Tryz.prog 109 #[.pointer (some ⟨b, 0, none⟩), .int .i64 n] w fun x w' => x = .returned (.tuple #[]) ∧ RIn B b S most w' p ov out (rno n e) ∧ Kept 5 B [b] w w' := by
  have c4 := h.c4
  have f4 := h.fz 4
  have le := h.le
  by_cases h0 : e = 0
  · subst h0
    go_enter Tryz.func109, Tryz.ntmps109
    go_wp2
    go_end0
    exact ⟨rfl, h.set4 n hn, (Kept.refl _ _ _ _).setCell (by simp) _⟩
  · have e0 : ((e : Int) == 0) = false := by simp; omega
    go_enter Tryz.func109, Tryz.ntmps109
    go_wp2
    go_end0
    exact ⟨rfl, by unfold rno; rw [if_neg h0]; exact h, Kept.refl _ _ _ _⟩
/-- A byte comes out. -/
def rput (most c : Nat) (s : List Nat × Nat) : List Nat × Nat := if s.2 = 0 then (if most ≤ s.1.length then (s.1, 6) else (s.1 ++ [c], 0)) else s
theorem rput_ok (h : RIn B b S most w p ov out e) (c : Nat) (hc : c < 256) :
    Calls Tryz.prog 108 #[.pointer (some ⟨b, 0, none⟩), .int .u8 c] w fun x w' => x = .returned (.tuple #[]) ∧ ∃ ov', RIn B b S most w' p ov' (rput most c (out, e)).1 (rput most c (out, e)).2 ∧ Kept 5 B [b] w w' := by
  obtain ⟨i0, hi, hz0, hz1, hz2⟩ := info_parts Tryz.infoByte
  have c2 := h.c2
  have c3 := h.c3
  have c4 := h.c4
  have le := h.le
  have lm := h.lm
  have lo := h.lo
  obtain ⟨ao, oc, hov⟩ := own_slice h.own
  have HOV := hide hov
  rw [hov] at c2
  clear hov
  by_cases h0 : e = 0
  · subst h0
    by_cases hfull : most ≤ out.length
    · have d2 : decide ((most : Int) ≤ (out.length : Int)) = true := by simp; omega
      have HNO := hide (fun q => rno_ok (h.drewN q) 6 (by omega))
      go_enter Tryz.func108, Tryz.ntmps108
      go_wp2_with fail
      go_quiet (fail)
      go_wp2_with fail
      refine (HNO.out nq).mono ?_
      rintro x w1 ⟨rfl, h1, k1⟩
      have d4 := h1.c4
      unfold rno at d4
      simp only [if_true] at d4
      go_wp2
      go_end0
      refine ⟨rfl, ov, ?_, ((Kept.refl _ _ _ _).drewN nq).trans k1⟩
      simp only [rput, if_true, if_pos hfull]
      exact h1
    · have d2 : decide ((most : Int) ≤ (out.length : Int)) = false := by simp; omega
      have hs := h.sz
      go_enter Tryz.func108, Tryz.ntmps108
      go_wp2_with fail
      go_quiet (fail)
      have HR := hide ((h.drewN nq).alloc (.cells #[.int .u8 (c : Nat)] 5))
      rw [← HOV.out] at c2
      go_wp2_with (at_builtin; refine wpList_append_own _ rfl (.tmp 32) (.tmp 34) 23 rfl B 5 i0 (.int .u8 0) 1 1 Tryz.underlying23 hi hz0 hz1 hz2 rfl (by decide) ov out.length _ rfl HR.out.own ⟨w.heap.size, 0, none⟩ 1 1 ([c].map fun x : Nat => .int .u8 (x : Int)) rfl rfl ?hnews ?hone ?h63 ?hby ?hbs ?_)
      case hnews =>
        intro j u hu
        match j, hu with
        | 0, hu => exact (cell_blk (blk_new (w.drewN nq) _)).trans hu
        | j + 1, hu => simp at hu
      case hone => intro u hu; simp at hu; subst hu; rfl
      case h63 => unfold maxLen; omega
      case hby => omega
      case hbs => simp; omega
      intro v' w2 hown hg0 _
      have hg : ((w.drewN nq).alloc (.cells #[.int .u8 (c : Nat)] 5)).grownBy w2 ov.ownBlock := ⟨hg0.os, hg0.tape, hg0.output, hg0.size, hg0.block⟩
      clear hg0
      have hk := HR.out.grown_blk hg
      have k2 : w2.cell? ⟨b, 2, none⟩ = some ov := by rw [cell_blk hk]; rfl
      have f2 : w2.frozen? ⟨b, 2, none⟩ = false := free_blk hk
      obtain ⟨ao', oc', rfl⟩ := own_slice hown
      have R := hide (HR.out.put (xs := [c]) (by simp; omega) hown hg)
      have KK := hide (((((Kept.refl 5 B [b] w).drewN nq).alloc (.cells #[.int .u8 (c : Nat)] 5)).grown hg (own_row HR.out.own)).setCell (p := ⟨b, 2, none⟩) (by simp) (.slice ao' (out.length + 1) oc'))
      clear hown hg hk HR
      go_wp2
      go_end0
      refine ⟨rfl, .slice ao' (out.length + 1) oc', ?_, KK.out⟩
      simp only [rput, if_true, if_neg hfull]
      exact R.out
  · have e0 : ((e : Int) == 0) = false := by simp; omega
    go_enter Tryz.func108, Tryz.ntmps108
    go_wp2_with fail
    go_quiet (fail)
    go_wp2
    go_end0
    refine ⟨rfl, ov, ?_, (Kept.refl _ _ _ _).drewN nq⟩
    simp only [rput, if_neg h0]
    exact h.drewN nq
end Go.Proofs.YtgkljcmjnphpeaaGreatDoor
