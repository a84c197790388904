/- Plain mathematics of the filter of 85 digits. -/
import Derived.Test.YtgkljcmjnphpeaaDoorA85G
import Derived.Test.YtgkljcmjnphpeaaDoorChain
set_option linter.unusedVariables false
set_option linter.unusedSimpArgs false
/- Plain mathematics of the filter of 85 digits. -/
namespace Go.Proofs.YtgkljcmjnphpeaaDoor
open Go.RowKit

def val4 (b0 b1 b2 b3 : Nat) : Nat := b0 * 16777216 + b1 * 65536 + b2 * 256 + b3
def dig5 (V : Nat) : List Nat := [33 + V / 52200625, 33 + V / 614125 % 85, 33 + V / 7225 % 85, 33 + V / 85 % 85, 33 + V % 85]

/-- What the filter writes. -/
def enc85 : List Nat → List Nat
  | b0 :: b1 :: b2 :: b3 :: l => (if b0 = 0 ∧ b1 = 0 ∧ b2 = 0 ∧ b3 = 0 then [122] else dig5 (val4 b0 b1 b2 b3)) ++ enc85 l
  | [b0, b1, b2] => (dig5 (val4 b0 b1 b2 0)).take 4 ++ [126, 62]
  | [b0, b1] => (dig5 (val4 b0 b1 0 0)).take 3 ++ [126, 62]
  | [b0] => (dig5 (val4 b0 0 0 0)).take 2 ++ [126, 62]
  | [] => [126, 62]

theorem val4_lt {b0 b1 b2 b3 : Nat} (h0 : b0 < 256) (h1 : b1 < 256) (h2 : b2 < 256) (h3 : b3 < 256) : val4 b0 b1 b2 b3 ≤ 4294967295 := by unfold val4; omega
theorem dig5_range {V : Nat} (h : V ≤ 4294967295) : ∀ i, i < 5 → 33 ≤ nth (dig5 V) i ∧ nth (dig5 V) i ≤ 117 := by
  intro i hi
  have : V / 52200625 ≤ 84 := by omega
  match i, hi with
  | 0, _ => exact ⟨by show 33 ≤ 33 + _; omega, by show 33 + V / 52200625 ≤ 117; omega⟩
  | 1, _ => exact ⟨by show 33 ≤ 33 + _; omega, by show 33 + V / 614125 % 85 ≤ 117; omega⟩
  | 2, _ => exact ⟨by show 33 ≤ 33 + _; omega, by show 33 + V / 7225 % 85 ≤ 117; omega⟩
  | 3, _ => exact ⟨by show 33 ≤ 33 + _; omega, by show 33 + V / 85 % 85 ≤ 117; omega⟩
  | 4, _ => exact ⟨by show 33 ≤ 33 + _; omega, by show 33 + V % 85 ≤ 117; omega⟩

theorem split85 (V : Nat) : V = 85 * (V / 85) + V % 85 ∧ V / 85 = 85 * (V / 7225) + V / 85 % 85 ∧ V / 7225 = 85 * (V / 614125) + V / 7225 % 85 ∧ V / 614125 = 85 * (V / 52200625) + V / 614125 % 85 := by
  have e1 : V / 7225 = V / 85 / 85 := by rw [Nat.div_div_eq_div_mul]
  have e2 : V / 614125 = V / 7225 / 85 := by rw [Nat.div_div_eq_div_mul]
  have e3 : V / 52200625 = V / 614125 / 85 := by rw [Nat.div_div_eq_div_mul]
  omega

theorem a85V_five (g0 g1 g2 g3 g4 : Nat) : a85V [g0, g1, g2, g3, g4] 0 = ((((g0 - 33) * 85 + (g1 - 33)) * 85 + (g2 - 33)) * 85 + (g3 - 33)) * 85 + (g4 - 33) := by
  show ((((0 * 85 + (g0 - 33)) * 85 + (g1 - 33)) * 85 + (g2 - 33)) * 85 + (g3 - 33)) * 85 + (g4 - 33) = _
  rw [Nat.zero_mul, Nat.zero_add]
theorem dig5_val {V : Nat} (h : V ≤ 4294967295) : a85V (dig5 V) 0 = V := by
  unfold dig5
  rw [a85V_five]
  obtain ⟨e1, e2, e3, e4⟩ := split85 V
  omega
theorem out_val {b0 b1 b2 b3 : Nat} (h0 : b0 < 256) (h1 : b1 < 256) (h2 : b2 < 256) (h3 : b3 < 256) : a85Out (val4 b0 b1 b2 b3) = [b0, b1, b2, b3] := by
  unfold a85Out val4
  have a0 : (b0 * 16777216 + b1 * 65536 + b2 * 256 + b3) / 16777216 = b0 := by omega
  have a1 : (b0 * 16777216 + b1 * 65536 + b2 * 256 + b3) / 65536 % 256 = b1 := by omega
  have a2 : (b0 * 16777216 + b1 * 65536 + b2 * 256 + b3) / 256 % 256 = b2 := by omega
  have a3 : (b0 * 16777216 + b1 * 65536 + b2 * 256 + b3) % 256 = b3 := by omega
  rw [a0, a1, a2, a3]

theorem top3 {S b0 b1 b2 : Nat} (h0 : b0 < 256) (h1 : b1 < 256) (h2 : b2 < 256) (lo : b0 * 16777216 + b1 * 65536 + b2 * 256 ≤ S) (hi : S < b0 * 16777216 + b1 * 65536 + b2 * 256 + 256) : S / 16777216 = b0 ∧ S / 65536 % 256 = b1 ∧ S / 256 % 256 = b2 := by
  have e1 : S / 256 = b0 * 65536 + b1 * 256 + b2 := by omega
  have e2 : S / 65536 = S / 256 / 256 := by rw [Nat.div_div_eq_div_mul]
  have e3 : S / 65536 = b0 * 256 + b1 := by rw [e2, e1]; omega
  have e4 : S / 16777216 = S / 65536 / 256 := by rw [Nat.div_div_eq_div_mul]
  refine ⟨by rw [e4, e3]; omega, by rw [e3]; omega, by rw [e1]; omega⟩
theorem top2 {S b0 b1 : Nat} (h0 : b0 < 256) (h1 : b1 < 256) (lo : b0 * 16777216 + b1 * 65536 ≤ S) (hi : S < b0 * 16777216 + b1 * 65536 + 65536) : S / 16777216 = b0 ∧ S / 65536 % 256 = b1 := by
  have e3 : S / 65536 = b0 * 256 + b1 := by omega
  have e4 : S / 16777216 = S / 65536 / 256 := by rw [Nat.div_div_eq_div_mul]
  refine ⟨by rw [e4, e3]; omega, by rw [e3]; omega⟩
theorem short3 {b0 b1 b2 : Nat} (h0 : b0 < 256) (h1 : b1 < 256) (h2 : b2 < 256) :
    shortV (nth (dig5 (val4 b0 b1 b2 0)) 0) (nth (dig5 (val4 b0 b1 b2 0)) 1) (nth (dig5 (val4 b0 b1 b2 0)) 2) (nth (dig5 (val4 b0 b1 b2 0)) 3) 4 ≤ 4294967295 ∧ (a85Out (shortV (nth (dig5 (val4 b0 b1 b2 0)) 0) (nth (dig5 (val4 b0 b1 b2 0)) 1) (nth (dig5 (val4 b0 b1 b2 0)) 2) (nth (dig5 (val4 b0 b1 b2 0)) 3) 4)).take 3 = [b0, b1, b2] := by
  obtain ⟨V, hV⟩ : ∃ V, V = val4 b0 b1 b2 0 := ⟨_, rfl⟩
  rw [← hV]
  have e : shortV (nth (dig5 V) 0) (nth (dig5 V) 1) (nth (dig5 V) 2) (nth (dig5 V) 3) 4 = a85V [33 + V / 52200625, 33 + V / 614125 % 85, 33 + V / 7225 % 85, 33 + V / 85 % 85, 117] 0 := rfl
  obtain ⟨e1, e2, e3, e4⟩ := split85 V
  unfold val4 at hV
  rw [e, a85V_five]
  obtain ⟨S, hS⟩ : ∃ S, S = ((((33 + V / 52200625 - 33) * 85 + (33 + V / 614125 % 85 - 33)) * 85 + (33 + V / 7225 % 85 - 33)) * 85 + (33 + V / 85 % 85 - 33)) * 85 + (117 - 33) := ⟨_, rfl⟩
  rw [← hS]
  have lo : V ≤ S := by omega
  have hi : S < V + 85 := by omega
  refine ⟨by omega, ?_⟩
  show [S / 16777216, S / 65536 % 256, S / 256 % 256] = _
  obtain ⟨t0, t1, t2⟩ := top3 (S := S) h0 h1 h2 (by omega) (by omega)
  rw [t0, t1, t2]
theorem short2 {b0 b1 : Nat} (h0 : b0 < 256) (h1 : b1 < 256) :
    shortV (nth (dig5 (val4 b0 b1 0 0)) 0) (nth (dig5 (val4 b0 b1 0 0)) 1) (nth (dig5 (val4 b0 b1 0 0)) 2) (nth (dig5 (val4 b0 b1 0 0)) 3) 3 ≤ 4294967295 ∧ (a85Out (shortV (nth (dig5 (val4 b0 b1 0 0)) 0) (nth (dig5 (val4 b0 b1 0 0)) 1) (nth (dig5 (val4 b0 b1 0 0)) 2) (nth (dig5 (val4 b0 b1 0 0)) 3) 3)).take 2 = [b0, b1] := by
  obtain ⟨V, hV⟩ : ∃ V, V = val4 b0 b1 0 0 := ⟨_, rfl⟩
  rw [← hV]
  have e : shortV (nth (dig5 V) 0) (nth (dig5 V) 1) (nth (dig5 V) 2) (nth (dig5 V) 3) 3 = a85V [33 + V / 52200625, 33 + V / 614125 % 85, 33 + V / 7225 % 85, 117, 117] 0 := rfl
  obtain ⟨e1, e2, e3, e4⟩ := split85 V
  unfold val4 at hV
  rw [e, a85V_five]
  obtain ⟨S, hS⟩ : ∃ S, S = ((((33 + V / 52200625 - 33) * 85 + (33 + V / 614125 % 85 - 33)) * 85 + (33 + V / 7225 % 85 - 33)) * 85 + (117 - 33)) * 85 + (117 - 33) := ⟨_, rfl⟩
  rw [← hS]
  have lo : V ≤ S := by omega
  have hi : S < V + 7225 := by omega
  refine ⟨by omega, ?_⟩
  show [S / 16777216, S / 65536 % 256] = _
  obtain ⟨t0, t1⟩ := top2 (S := S) h0 h1 (by omega) (by omega)
  rw [t0, t1]
theorem short1 {b0 : Nat} (h0 : b0 < 256) :
    shortV (nth (dig5 (val4 b0 0 0 0)) 0) (nth (dig5 (val4 b0 0 0 0)) 1) (nth (dig5 (val4 b0 0 0 0)) 2) (nth (dig5 (val4 b0 0 0 0)) 3) 2 ≤ 4294967295 ∧ (a85Out (shortV (nth (dig5 (val4 b0 0 0 0)) 0) (nth (dig5 (val4 b0 0 0 0)) 1) (nth (dig5 (val4 b0 0 0 0)) 2) (nth (dig5 (val4 b0 0 0 0)) 3) 2)).take 1 = [b0] := by
  obtain ⟨V, hV⟩ : ∃ V, V = val4 b0 0 0 0 := ⟨_, rfl⟩
  rw [← hV]
  have e : shortV (nth (dig5 V) 0) (nth (dig5 V) 1) (nth (dig5 V) 2) (nth (dig5 V) 3) 2 = a85V [33 + V / 52200625, 33 + V / 614125 % 85, 117, 117, 117] 0 := rfl
  obtain ⟨e1, e2, e3, e4⟩ := split85 V
  unfold val4 at hV
  rw [e, a85V_five]
  obtain ⟨S, hS⟩ : ∃ S, S = ((((33 + V / 52200625 - 33) * 85 + (33 + V / 614125 % 85 - 33)) * 85 + (117 - 33)) * 85 + (117 - 33)) * 85 + (117 - 33) := ⟨_, rfl⟩
  rw [← hS]
  have lo : V ≤ S := by omega
  have hi : S < V + 614125 := by omega
  refine ⟨by omega, ?_⟩
  show [S / 16777216] = _
  rw [show S / 16777216 = b0 by omega]
end Go.Proofs.YtgkljcmjnphpeaaDoor
/- The filter of 85 digits, read: its end, too little room, no end. -/
namespace Go.Proofs.YtgkljcmjnphpeaaDoor
open Go.RowKit
variable {B br bd off cap : Nat} {d : List Nat} {most : Nat} {w : World} {p : Nat} {ov : Value} {out : List Nat}

theorem putShort_zero {G : List Nat} (w : World) : Calls Tryd.prog 53 #[.pointer (some ⟨br, 0, none⟩), .agg (byteVals (partly G 0)).toArray, .int .i64 (0 : Nat)] w fun e w' => e = .returned (.tuple #[]) ∧ ∃ o, w' = w.alloc o := by
  generalize (byteVals (partly G 0)).toArray = C
  go_enter Tryd.func53, Tryd.ntmps53
  go_wp2
  refine bodyPost_ret (v := .tuple #[]) (by simp [results, Tryd.results53, go_sem]) rfl ⟨rfl, _, rfl⟩

set_option maxRecDepth 100000 in
set_option maxHeartbeats 1000000 in
theorem putShort_no (h : Rd B br bd off cap d most w p ov out) (g0 g1 g2 g3 g4 n : Nat) (hn : 2 ≤ n) (hn2 : n ≤ 4) (h0 : 33 ≤ g0 ∧ g0 ≤ 117) (h1 : 33 ≤ g1 ∧ g1 ≤ 117) (h2 : 33 ≤ (if n ≤ 2 then 117 else g2) ∧ (if n ≤ 2 then 117 else g2) ≤ 117) (h3 : 33 ≤ (if n ≤ 3 then 117 else g3) ∧ (if n ≤ 3 then 117 else g3) ≤ 117)
    (V : Nat) (hV : a85V [g0, g1, if n ≤ 2 then 117 else g2, if n ≤ 3 then 117 else g3, 117] 0 = V) (hm : V ≤ 4294967295) (ho : most < out.length + (n - 1)) :
    Calls Tryd.prog 53 #[.pointer (some ⟨br, 0, none⟩), .agg (byteVals [g0, g1, g2, g3, g4]).toArray, .int .i64 n] w fun e w' => e = gaveUp 6 ∧ Kept 5 B [br] w w' := by
  have HF := hide (fill5_eq g0 g1 g2 g3 g4 n hn hn2)
  have HB : Hid (∀ W : World, Calls Tryd.prog 55 #[.agg (byteVals [g0, g1, if n ≤ 2 then 117 else g2, if n ≤ 3 then 117 else g3, 117]).toArray] W fun e w' => e = .returned (.agg #[.int .u8 (V / 16777216 : Nat), .int .u8 (V / 65536 % 256 : Nat), .int .u8 (V / 256 % 256 : Nat), .int .u8 (V % 256 : Nat)]) ∧ Below W.heap.size W w') := fun W => a85Bytes_ok g0 g1 _ _ 117 h0 h1 h2 h3 (by omega) V hV hm W
  clear h0 h1 h2 h3 hV
  generalize hR : [g0, g1, if n ≤ 2 then 117 else g2, if n ≤ 3 then 117 else g3, 117] = R at *
  have hR5 : R.length = 5 := by rw [← hR]; rfl
  have HR := hide hR
  have hbox : (w.alloc (.cells (byteVals [g0, g1, g2, g3, g4]).toArray 61)).heap[w.heap.size]? = some (.cells (byteVals [g0, g1, g2, g3, g4]).toArray 61 (0, 0)) := blk_new _ _
  have h5 : [g0, g1, g2, g3, g4].length = 5 := rfl
  generalize [g0, g1, g2, g3, g4] = D at *
  clear hR
  have hne0 : ((n : Int) == 0) = false := by simp; omega
  have hn1 : (1 : Int) < n := by omega
  go_enter Tryd.func53, Tryd.ntmps53
  go_wp2_with (go_at_call 39; refine (must_yes _).mono ?_; rintro e w' ⟨rfl, rfl⟩)
  go_loopw [6] (fun i wr => ∃ (k : Nat) (E : List Nat), n ≤ k ∧ k ≤ 5 ∧ i = .int .i64 k ∧ E.length = 5 ∧ Hid (fill5 E (5 - k) k = R) ∧ wr.heap[w.heap.size]? = some (.cells (byteVals E).toArray 61 (0, 0)) ∧ Below w.heap.size w wr) (fun i _ => 5 - (intOf i).toNat)
  case atStart => exact ⟨n, D, Nat.le_refl _, by omega, rfl, h5, HF, hbox, (Below.refl _ _).alloc (Nat.le_refl _) _⟩
  clear hbox HF
  case round =>
    obtain ⟨k, E, k1, k2, rfl, hE, HK, hb, bl⟩ := hrel
    by_cases hk : k < 5
    · obtain ⟨x, hx⟩ : ∃ x, wr.cell? ⟨w.heap.size, k, none⟩ = some x := by
        rw [cell_blk hb]
        exact ⟨_, Array.getElem?_eq_getElem (by simp [byteVals, hE]; omega)⟩
      have fx : wr.frozen? ⟨w.heap.size, k, none⟩ = false := free_blk hb
      have hk' : (k : Int) < 5 := by omega
      have HB2 : Hid ((wr.setCell ⟨w.heap.size, k, none⟩ (.int .u8 117)).heap[w.heap.size]? = some (.cells (byteVals (E.set k 117)).toArray 61 (0, 0))) := by
        unfold Hid
        rw [blk_setCell _ hb]
        exact congrArg (fun C => some (Obj.cells C 61 (0, 0))) (byteVals_set E k 117)
      have HBL := hide bl
      clear hb bl
      go_wp2
      go_roundw
      case rel =>
        refine ⟨k + 1, E.set k 117, by omega, by omega, by go_num, by rw [List.length_set]; exact hE, ?_, HB2.out, HBL.out.setCell (Nat.le_refl _) _⟩
        have := HK.out
        rw [show 5 - k = (5 - (k + 1)) + 1 by omega, fill5] at this
        exact this
      case measure => simp [intOf]; omega
    · obtain rfl : k = 5 := by omega
      obtain rfl : E = R := HK.out
      have hcs : Hid (wr.rangeAt w.heap.size 0 (byteVals E)) := by
        intro j v hj
        rw [cell_blk hb, Nat.zero_add]
        simpa using hj
      have hi5 : Hid ((Tryd.prog.info? 61).map (·.size) = some (byteVals E).length) := by
        unfold Hid byteVals; rw [List.length_map, hE]; kernel_rfl
      have HBL := hide bl
      have hsz := bl.size
      clear hb bl HK
      go_wp2_with (refine wpList_load_mid rfl 61 (.tmp 4) rfl w.heap.size 0 rfl _ _ hcs.out Tryd.underlying61 rfl hi5.out ?_)
      refine (HB.out _).mono ?_
      rintro e w1 ⟨rfl, b1⟩
      have HR1 := hide ((h.ofBelow (HBL.out.trans (b1.mono hsz))))
      have K1 := hide (HBL.out.trans (b1.mono hsz))
      clear h HBL b1 HB hcs hi5
      have hsl := run_slice43 w1.heap.size n hn hn2
      have HP := hide (put_no (HR1.out.alloc (.cells #[.int .u8 (V / 16777216 : Nat), .int .u8 (V / 65536 % 256 : Nat), .int .u8 (V / 256 % 256 : Nat), .int .u8 (V % 256 : Nat)] 43)) (n - 1) (some ⟨w1.heap.size, 0, none⟩) 4 (by omega) ho)
      go_wp2_with fail
      refine HP.out.mono ?_
      rintro e w2 ⟨rfl, q, rfl⟩
      exact ⟨rfl, rfl, (((Kept.refl _ _ _ _).trans ⟨K1.out.os, K1.out.tape, K1.out.output, K1.out.size, fun i o _ ho _ => by rw [K1.out.block i (lt_of_block ho)]; exact ho⟩).alloc _).drewN q⟩

theorem putShort_part_no (h : Rd B br bd off cap d most w p ov out) (G : List Nat) (hG : G.length = 5) (n : Nat) (hn : 2 ≤ n) (hn2 : n ≤ 4) (hg : ∀ i, i < n → 33 ≤ nth G i ∧ nth G i ≤ 117) (V : Nat) (hV : shortV (nth G 0) (nth G 1) (nth G 2) (nth G 3) n = V) (hm : V ≤ 4294967295) (ho : most < out.length + (n - 1)) :
    Calls Tryd.prog 53 #[.pointer (some ⟨br, 0, none⟩), .agg (byteVals (partly G n)).toArray, .int .i64 n] w fun e w' => e = gaveUp 6 ∧ Kept 5 B [br] w w' := by
  match G, hG with
  | [g0, g1, g2, g3, g4], _ =>
    have k0 := hg 0 (by omega)
    have k1 := hg 1 (by omega)
    obtain rfl | rfl | rfl : n = 2 ∨ n = 3 ∨ n = 4 := by omega
    · exact putShort_no h g0 g1 0 0 0 2 (by omega) (by omega) k0 k1 (by simp) (by simp) V hV hm ho
    · have k2 := hg 2 (by omega)
      exact putShort_no h g0 g1 g2 0 0 3 (by omega) (by omega) k0 k1 k2 (by simp) V hV hm ho
    · have k2 := hg 2 (by omega)
      have k3 := hg 3 (by omega)
      exact putShort_no h g0 g1 g2 g3 0 4 (by omega) (by omega) k0 k1 k2 k3 V hV hm ho

set_option maxRecDepth 100000 in
set_option maxHeartbeats 2000000 in
theorem a85Group_short_cap (h : Rd B br bd off cap d most w p ov out) (G : List Nat) (hG : G.length = 5) (n : Nat) (hn : 2 ≤ n) (hn2 : n ≤ 4) (hp : p + n + 1 < d.length) (hd : ∀ i, i < n → nth d (p + i) = nth G i) (hg : ∀ i, i < n → 33 ≤ nth G i ∧ nth G i ≤ 117)
    (he1 : nth d (p + n) = 126) (he2 : nth d (p + n + 1) = 62) (V : Nat) (hV : shortV (nth G 0) (nth G 1) (nth G 2) (nth G 3) n = V) (hm : V ≤ 4294967295) (ho : most < out.length + (n - 1)) :
    Calls Tryd.prog 33 #[.pointer (some ⟨br, 0, none⟩)] w fun e w' => e = gaveUp 6 ∧ Kept 5 B [br] w w' := by
  have HD := hide hd
  have HG := hide hg
  have HE1 := hide he1
  have HE2 := hide he2
  have HPS : Hid (∀ (W : World) (q : Nat), Rd B br bd off cap d most W q ov out → Calls Tryd.prog 53 #[.pointer (some ⟨br, 0, none⟩), .agg (byteVals (partly G n)).toArray, .int .i64 n] W fun e w' => e = gaveUp 6 ∧ Kept 5 B [br] W w') := fun W q hq => putShort_part_no hq G hG n hn hn2 hg V hV hm ho
  have hbr := lt_of_block h.blk
  have hlen := h.cp
  have hlc := h.lc
  have hb0 : (w.alloc (.cells (byteVals (partly G 0)).toArray 61 (0, 0))).heap[w.heap.size]? = some (.cells (byteVals (partly G 0)).toArray 61 (0, 0)) := blk_new _ _
  have e0 : (byteVals (partly G 0)).toArray = #[.int .u8 0, .int .u8 0, .int .u8 0, .int .u8 0, .int .u8 0] := by
    rw [partly_zero, hG]; rfl
  rw [e0] at hb0
  have HB0 := hide hb0
  have E0 := hide e0
  have HR0 := hide (h.alloc (.cells #[.int .u8 0, .int .u8 0, .int .u8 0, .int .u8 0, .int .u8 0] 61 (0, 0)))
  clear hd hg he1 he2 hV hm hb0 e0 h
  go_enter Tryd.func33, Tryd.ntmps33
  go_wp2
  go_loopw [7] (fun i wr => ∃ k : Nat, k ≤ n ∧ i = .int .i64 k ∧ wr.heap[w.heap.size]? = some (.cells (byteVals (partly G k)).toArray 61 (0, 0)) ∧ Rd B br bd off cap d most wr (p + k) ov out ∧ Kept 5 B [br] w wr) (fun i _ => 5 - (intOf i).toNat)
  case atStart => exact ⟨0, by omega, rfl, by rw [E0.out]; exact HB0.out, HR0.out, (Kept.refl _ _ _ _).alloc _⟩
  clear HB0 E0 HR0
  case round =>
    obtain ⟨k, hk, rfl, hb, hr, kk⟩ := hrel
    have lit0 : (({ data := #[126, 62] } : ByteArray)[0]'(by decide)).toNat = 126 := rfl
    have lit1 : (({ data := #[126, 62] } : ByteArray)[1]'(by decide)).toNat = 62 := rfl
    have hbB := hr.hB
    have hBb := hr.hb
    by_cases hkn : k < n
    · have hg := HG.out k hkn
      have HN := hide (nextInk_ok hr (by omega) (by rw [HD.out k hkn]; exact dig_white _ (by omega) (by omega)))
      rw [HD.out k hkn] at HN
      have HST := hide (partly_step G k (by omega))
      have hlp : (partly G k).length = 5 := by rw [partly_length, hG]
      generalize nth G k = g at *
      have e1 : ((g : Int) == 126) = false := by simp; omega
      have e2 : ((g : Int) == 122) = false := by simp; omega
      have HBK := hide hb
      have HKK := hide kk
      have hk5 : k < 5 := by omega
      clear hb kk hr
      go_wp2_with fail
      refine HN.out.mono ?_
      rintro e w1 ⟨rfl, r1, k1⟩
      have hb1 := k1.block w.heap.size _ (by simp; omega) HBK.out (Or.inr (by intro c fz e; simp at e))
      obtain ⟨x, hx⟩ : ∃ x, w1.cell? ⟨w.heap.size, k, none⟩ = some x := by
        rw [cell_blk hb1]
        exact ⟨_, Array.getElem?_eq_getElem (by simp [byteVals, hlp]; omega)⟩
      have fx : w1.frozen? ⟨w.heap.size, k, none⟩ = false := free_blk hb1
      have HB2 : Hid ((w1.setCell ⟨w.heap.size, k, none⟩ (.int .u8 (g : Nat))).heap[w.heap.size]? = some (.cells (byteVals (partly G (k + 1))).toArray 61 (0, 0))) := by
        unfold Hid
        rw [blk_setCell _ hb1, HST.out]
        exact congrArg (fun C => some (Obj.cells C 61 (0, 0))) (byteVals_set (partly G k) k g)
      have HR2 := hide (r1.other (i := k) hb1 (by decide) (by omega) (by omega) (.int .u8 (g : Nat)))
      have HK2 := hide (Kept.setNew (HKK.out.trans k1) (q := ⟨w.heap.size, k, none⟩) (Nat.le_refl _) (.int .u8 (g : Nat)))
      clear r1 k1 hb1 HBK HKK HN HST
      go_wp2_with (first | (go_at_call 54; refine (within_byte_yes _ _ _ _ (by omega) (by omega)).mono ?_; rintro e w' ⟨rfl, rfl⟩) | (go_at_call 39; refine (must_yes _).mono ?_; rintro e w' ⟨rfl, rfl⟩))
      go_roundw
      case rel => exact ⟨k + 1, by omega, by go_num, HB2.out, HR2.out, HK2.out⟩
      case measure => simp [intOf]; omega
    · obtain rfl : k = n := by omega
      have HN := hide (nextInk_ok hr (by omega) (by rw [HE1.out]; rfl))
      rw [HE1.out] at HN
      have hk5 : (k : Int) < 5 := by omega
      have HBK := hide hb
      have HKK := hide kk
      clear hb kk hr
      go_wp2_with fail
      refine HN.out.mono ?_
      rintro e w1 ⟨rfl, r1, k1⟩
      have hb1 := hide (k1.block w.heap.size _ (by simp; omega) HBK.out (Or.inr (by intro c fz e; simp at e)))
      have K1 := hide (HKK.out.trans k1)
      have HN2 := hide (next_ok (w := w1.drew) (r1.drewN 1) (by omega))
      rw [show p + k + 1 = p + k + 1 from rfl, HE2.out] at HN2
      clear r1 k1 HBK HKK HN
      go_wp2_with fail
      go_region_with (first | (go_at_call 52; refine HN2.out.mono ?_; rintro e w2 ⟨rfl, r2, k2⟩) | (go_at_call 39; refine (must_yes _).mono ?_; rintro e w' ⟨rfl, rfl⟩))
      all_goals (
        have HR2 := hide r2
        have hb2 := k2.block w.heap.size _ (by simp; omega) (show w1.drew.heap[w.heap.size]? = _ from hb1.out) (Or.inr (by intro c fz e; simp at e))
        have K2 := hide ((K1.out.drew).trans k2)
        have hcs := range_of_blk hb2
        have hi5 : Hid ((Tryd.prog.info? 61).map (·.size) = some (byteVals (partly G k)).length) := by
          unfold Hid byteVals; rw [List.length_map, partly_length, hG]; kernel_rfl
        clear r2 k2 hb2
        go_wp2_with (refine wpList_load_mid rfl 61 (.tmp 3) rfl w.heap.size 0 rfl _ _ hcs.out Tryd.underlying61 rfl hi5.out ?_)
        refine (HPS.out _ _ HR2.out).mono ?_
        rintro e w3 ⟨rfl, k3⟩
        exact ⟨rfl, rfl, K2.out.trans k3⟩)
set_option maxRecDepth 100000 in
set_option maxHeartbeats 2000000 in
theorem a85Group_end (h : Rd B br bd off cap d most w p ov out) (hp : p + 1 < d.length) (he1 : nth d p = 126) (he2 : nth d (p + 1) = 62) :
    Calls Tryd.prog 33 #[.pointer (some ⟨br, 0, none⟩)] w fun e w' => e = .returned (.bool false) ∧ ∃ ov', Rd B br bd off cap d most w' (p + 2) ov' out ∧ Kept 5 B [br] w w' := by
  obtain ⟨n, hn0⟩ : ∃ n : Nat, n = 0 := ⟨0, rfl⟩
  obtain ⟨G, hG, hd, hg⟩ : ∃ G : List Nat, G.length = 5 ∧ (∀ i, i < n → nth d (p + i) = nth G i) ∧ (∀ i, i < n → 33 ≤ nth G i ∧ nth G i ≤ 117) := ⟨[0, 0, 0, 0, 0], rfl, fun i hi => by omega, fun i hi => by omega⟩
  have hn2 : n ≤ 4 := by omega
  have he1 : nth d (p + n) = 126 := by rw [hn0]; exact he1
  have he2 : nth d (p + n + 1) = 62 := by rw [hn0]; exact he2
  have HD := hide hd
  have HG := hide hg
  have HE1 := hide he1
  have HE2 := hide he2
  have HPS : Hid (∀ (W : World) (q : Nat), Rd B br bd off cap d most W q ov out → Calls Tryd.prog 53 #[.pointer (some ⟨br, 0, none⟩), .agg (byteVals (partly G n)).toArray, .int .i64 n] W fun e w' => e = .returned (.tuple #[]) ∧ ∃ o, w' = W.alloc o) := fun W q hq => by rw [hn0]; exact putShort_zero _
  have HN0 := hide hn0
  have hp : p + n + 1 < d.length := by omega
  clear hn0
  have hbr := lt_of_block h.blk
  have hlen := h.cp
  have hlc := h.lc
  have hb0 : (w.alloc (.cells (byteVals (partly G 0)).toArray 61 (0, 0))).heap[w.heap.size]? = some (.cells (byteVals (partly G 0)).toArray 61 (0, 0)) := blk_new _ _
  have e0 : (byteVals (partly G 0)).toArray = #[.int .u8 0, .int .u8 0, .int .u8 0, .int .u8 0, .int .u8 0] := by
    rw [partly_zero, hG]; rfl
  rw [e0] at hb0
  have HB0 := hide hb0
  have E0 := hide e0
  have HR0 := hide (h.alloc (.cells #[.int .u8 0, .int .u8 0, .int .u8 0, .int .u8 0, .int .u8 0] 61 (0, 0)))
  clear hd hg he1 he2 hb0 e0 h
  go_enter Tryd.func33, Tryd.ntmps33
  go_wp2
  go_loopw [7] (fun i wr => ∃ k : Nat, k ≤ n ∧ i = .int .i64 k ∧ wr.heap[w.heap.size]? = some (.cells (byteVals (partly G k)).toArray 61 (0, 0)) ∧ Rd B br bd off cap d most wr (p + k) ov out ∧ Kept 5 B [br] w wr) (fun i _ => 5 - (intOf i).toNat)
  case atStart => exact ⟨0, by omega, rfl, by rw [E0.out]; exact HB0.out, HR0.out, (Kept.refl _ _ _ _).alloc _⟩
  clear HB0 E0 HR0
  case round =>
    obtain ⟨k, hk, rfl, hb, hr, kk⟩ := hrel
    have lit0 : (({ data := #[126, 62] } : ByteArray)[0]'(by decide)).toNat = 126 := rfl
    have lit1 : (({ data := #[126, 62] } : ByteArray)[1]'(by decide)).toNat = 62 := rfl
    have hbB := hr.hB
    have hBb := hr.hb
    by_cases hkn : k < n
    · have hg := HG.out k hkn
      have HN := hide (nextInk_ok hr (by omega) (by rw [HD.out k hkn]; exact dig_white _ (by omega) (by omega)))
      rw [HD.out k hkn] at HN
      have HST := hide (partly_step G k (by omega))
      have hlp : (partly G k).length = 5 := by rw [partly_length, hG]
      generalize nth G k = g at *
      have e1 : ((g : Int) == 126) = false := by simp; omega
      have e2 : ((g : Int) == 122) = false := by simp; omega
      have HBK := hide hb
      have HKK := hide kk
      have hk5 : k < 5 := by omega
      clear hb kk hr
      go_wp2_with fail
      refine HN.out.mono ?_
      rintro e w1 ⟨rfl, r1, k1⟩
      have hb1 := k1.block w.heap.size _ (by simp; omega) HBK.out (Or.inr (by intro c fz e; simp at e))
      obtain ⟨x, hx⟩ : ∃ x, w1.cell? ⟨w.heap.size, k, none⟩ = some x := by
        rw [cell_blk hb1]
        exact ⟨_, Array.getElem?_eq_getElem (by simp [byteVals, hlp]; omega)⟩
      have fx : w1.frozen? ⟨w.heap.size, k, none⟩ = false := free_blk hb1
      have HB2 : Hid ((w1.setCell ⟨w.heap.size, k, none⟩ (.int .u8 (g : Nat))).heap[w.heap.size]? = some (.cells (byteVals (partly G (k + 1))).toArray 61 (0, 0))) := by
        unfold Hid
        rw [blk_setCell _ hb1, HST.out]
        exact congrArg (fun C => some (Obj.cells C 61 (0, 0))) (byteVals_set (partly G k) k g)
      have HR2 := hide (r1.other (i := k) hb1 (by decide) (by omega) (by omega) (.int .u8 (g : Nat)))
      have HK2 := hide (Kept.setNew (HKK.out.trans k1) (q := ⟨w.heap.size, k, none⟩) (Nat.le_refl _) (.int .u8 (g : Nat)))
      clear r1 k1 hb1 HBK HKK HN HST
      go_wp2_with (first | (go_at_call 54; refine (within_byte_yes _ _ _ _ (by omega) (by omega)).mono ?_; rintro e w' ⟨rfl, rfl⟩) | (go_at_call 39; refine (must_yes _).mono ?_; rintro e w' ⟨rfl, rfl⟩))
      go_roundw
      case rel => exact ⟨k + 1, by omega, by go_num, HB2.out, HR2.out, HK2.out⟩
      case measure => simp [intOf]; omega
    · obtain rfl : k = n := by omega
      have HN := hide (nextInk_ok hr (by omega) (by rw [HE1.out]; rfl))
      rw [HE1.out] at HN
      have hk5 : (k : Int) < 5 := by omega
      have HBK := hide hb
      have HKK := hide kk
      clear hb kk hr
      go_wp2_with fail
      refine HN.out.mono ?_
      rintro e w1 ⟨rfl, r1, k1⟩
      have hb1 := hide (k1.block w.heap.size _ (by simp; omega) HBK.out (Or.inr (by intro c fz e; simp at e)))
      have K1 := hide (HKK.out.trans k1)
      have HN2 := hide (next_ok (w := w1.drew) (r1.drewN 1) (by omega))
      rw [show p + k + 1 = p + k + 1 from rfl, HE2.out] at HN2
      clear r1 k1 HBK HKK HN
      go_wp2_with fail
      go_region_with (first | (go_at_call 52; refine HN2.out.mono ?_; rintro e w2 ⟨rfl, r2, k2⟩) | (go_at_call 39; refine (must_yes _).mono ?_; rintro e w' ⟨rfl, rfl⟩))
      all_goals (
        have HR2 := hide r2
        have hb2 := k2.block w.heap.size _ (by simp; omega) (show w1.drew.heap[w.heap.size]? = _ from hb1.out) (Or.inr (by intro c fz e; simp at e))
        have K2 := hide ((K1.out.drew).trans k2)
        have hcs := range_of_blk hb2
        have hi5 : Hid ((Tryd.prog.info? 61).map (·.size) = some (byteVals (partly G k)).length) := by
          unfold Hid byteVals; rw [List.length_map, partly_length, hG]; kernel_rfl
        clear r2 k2 hb2
        go_wp2_with (refine wpList_load_mid rfl 61 (.tmp 3) rfl w.heap.size 0 rfl _ _ hcs.out Tryd.underlying61 rfl hi5.out ?_)
        refine (HPS.out _ _ HR2.out).mono ?_
        rintro e w3 ⟨rfl, o3, rfl⟩
        go_wp2
        go_ret
        exact ⟨rfl, ov, by have h0 := HN0.out; subst h0; exact HR2.out.alloc o3, K2.out.alloc o3⟩)
set_option maxRecDepth 100000 in
set_option maxHeartbeats 2000000 in
theorem a85Group_cut (h : Rd B br bd off cap d most w p ov out) (G : List Nat) (hG : G.length = 5) (n : Nat) (hn2 : n ≤ 4) (hp : p + n + 1 = d.length) (hd : ∀ i, i < n → nth d (p + i) = nth G i) (hg : ∀ i, i < n → 33 ≤ nth G i ∧ nth G i ≤ 117)
    (he1 : nth d (p + n) = 126) :
    Calls Tryd.prog 33 #[.pointer (some ⟨br, 0, none⟩)] w fun e w' => e = gaveUp 5 ∧ Kept 5 B [br] w w' := by
  have HD := hide hd
  have HG := hide hg
  have HE1 := hide he1
  have hbr := lt_of_block h.blk
  have hlen := h.cp
  have hlc := h.lc
  have hb0 : (w.alloc (.cells (byteVals (partly G 0)).toArray 61 (0, 0))).heap[w.heap.size]? = some (.cells (byteVals (partly G 0)).toArray 61 (0, 0)) := blk_new _ _
  have e0 : (byteVals (partly G 0)).toArray = #[.int .u8 0, .int .u8 0, .int .u8 0, .int .u8 0, .int .u8 0] := by
    rw [partly_zero, hG]; rfl
  rw [e0] at hb0
  have HB0 := hide hb0
  have E0 := hide e0
  have HR0 := hide (h.alloc (.cells #[.int .u8 0, .int .u8 0, .int .u8 0, .int .u8 0, .int .u8 0] 61 (0, 0)))
  clear hd hg he1 hb0 e0 h
  go_enter Tryd.func33, Tryd.ntmps33
  go_wp2
  go_loopw [7] (fun i wr => ∃ k : Nat, k ≤ n ∧ i = .int .i64 k ∧ wr.heap[w.heap.size]? = some (.cells (byteVals (partly G k)).toArray 61 (0, 0)) ∧ Rd B br bd off cap d most wr (p + k) ov out ∧ Kept 5 B [br] w wr) (fun i _ => 5 - (intOf i).toNat)
  case atStart => exact ⟨0, by omega, rfl, by rw [E0.out]; exact HB0.out, HR0.out, (Kept.refl _ _ _ _).alloc _⟩
  clear HB0 E0 HR0
  case round =>
    obtain ⟨k, hk, rfl, hb, hr, kk⟩ := hrel
    have lit0 : (({ data := #[126, 62] } : ByteArray)[0]'(by decide)).toNat = 126 := rfl
    have lit1 : (({ data := #[126, 62] } : ByteArray)[1]'(by decide)).toNat = 62 := rfl
    have hbB := hr.hB
    have hBb := hr.hb
    by_cases hkn : k < n
    · have hg := HG.out k hkn
      have HN := hide (nextInk_ok hr (by omega) (by rw [HD.out k hkn]; exact dig_white _ (by omega) (by omega)))
      rw [HD.out k hkn] at HN
      have HST := hide (partly_step G k (by omega))
      have hlp : (partly G k).length = 5 := by rw [partly_length, hG]
      generalize nth G k = g at *
      have e1 : ((g : Int) == 126) = false := by simp; omega
      have e2 : ((g : Int) == 122) = false := by simp; omega
      have HBK := hide hb
      have HKK := hide kk
      have hk5 : k < 5 := by omega
      clear hb kk hr
      go_wp2_with fail
      refine HN.out.mono ?_
      rintro e w1 ⟨rfl, r1, k1⟩
      have hb1 := k1.block w.heap.size _ (by simp; omega) HBK.out (Or.inr (by intro c fz e; simp at e))
      obtain ⟨x, hx⟩ : ∃ x, w1.cell? ⟨w.heap.size, k, none⟩ = some x := by
        rw [cell_blk hb1]
        exact ⟨_, Array.getElem?_eq_getElem (by simp [byteVals, hlp]; omega)⟩
      have fx : w1.frozen? ⟨w.heap.size, k, none⟩ = false := free_blk hb1
      have HB2 : Hid ((w1.setCell ⟨w.heap.size, k, none⟩ (.int .u8 (g : Nat))).heap[w.heap.size]? = some (.cells (byteVals (partly G (k + 1))).toArray 61 (0, 0))) := by
        unfold Hid
        rw [blk_setCell _ hb1, HST.out]
        exact congrArg (fun C => some (Obj.cells C 61 (0, 0))) (byteVals_set (partly G k) k g)
      have HR2 := hide (r1.other (i := k) hb1 (by decide) (by omega) (by omega) (.int .u8 (g : Nat)))
      have HK2 := hide (Kept.setNew (HKK.out.trans k1) (q := ⟨w.heap.size, k, none⟩) (Nat.le_refl _) (.int .u8 (g : Nat)))
      clear r1 k1 hb1 HBK HKK HN HST
      go_wp2_with (first | (go_at_call 54; refine (within_byte_yes _ _ _ _ (by omega) (by omega)).mono ?_; rintro e w' ⟨rfl, rfl⟩) | (go_at_call 39; refine (must_yes _).mono ?_; rintro e w' ⟨rfl, rfl⟩))
      go_roundw
      case rel => exact ⟨k + 1, by omega, by go_num, HB2.out, HR2.out, HK2.out⟩
      case measure => simp [intOf]; omega
    · obtain rfl : k = n := by omega
      have HN := hide (nextInk_ok hr (by omega) (by rw [HE1.out]; rfl))
      rw [HE1.out] at HN
      have hk5 : (k : Int) < 5 := by omega
      have HBK := hide hb
      have HKK := hide kk
      clear hb kk hr
      go_wp2_with fail
      refine HN.out.mono ?_
      rintro e w1 ⟨rfl, r1, k1⟩
      have hb1 := hide (k1.block w.heap.size _ (by simp; omega) HBK.out (Or.inr (by intro c fz e; simp at e)))
      have K1 := hide (HKK.out.trans k1)
      rw [hp] at r1
      have HN2 := hide (next_no (w := w1.drew) (r1.drewN 1))
      clear r1 k1 HBK HKK HN
      go_wp2_with fail
      refine wp_region_T (fun _ _ => True) (by kernel_rfl) ?_
      intro hD
      have hS : (fun (_ : Array Bool) (_ : World) => True) (Array.replicate 5 false) w1.drew := trivial
      refine wpAnyT_take (i := 0) (v := ?_) rfl (by kernel_rfl) (by kernel_rfl) (by kernel_rfl) (fun _ _ _ h => h) (fun _ _ h => h) (fun _ _ h => h) hD (Or.inl ⟨by rfl, ?_⟩) hS ?_
      rotate_left
      · intro W hW; go_simp; try (with_reducible rfl)
      clear hD hS; intro hD hS; (try simp only [Act.put, List.setIfInBounds_toArray, List.set_cons_zero, List.set_cons_succ])
      refine wpAnyT_take (i := 2) (v := ?_) rfl (by kernel_rfl) (by kernel_rfl) (by kernel_rfl) (fun _ _ _ h => h) (fun _ _ h => h) (fun _ _ h => h) hD (Or.inl ⟨by rfl, ?_⟩) hS ?_
      rotate_left
      · intro W hW; go_simp; try (with_reducible rfl)
      clear hD hS; intro hD hS; (try simp only [Act.put, List.setIfInBounds_toArray, List.set_cons_zero, List.set_cons_succ])
      refine wpAnyT_one (i := 1) (by kernel_rfl) rfl hD (fun K' hK => ?_)
      go_simp
      refine HN2.out.mono ?_
      rintro e w2 ⟨rfl, k2⟩
      exact ⟨rfl, rfl, (K1.out.drew).trans k2⟩

end Go.Proofs.YtgkljcmjnphpeaaDoor
/- The filter of 85 digits, read: whole groups. -/
namespace Go.Proofs.YtgkljcmjnphpeaaDoor
open Go.RowKit
variable {B br bd off cap : Nat} {d : List Nat} {most : Nat} {w : World} {p : Nat} {ov : Value} {out : List Nat}

set_option maxRecDepth 100000 in
set_option maxHeartbeats 2000000 in
theorem a85Group_full (h : Rd B br bd off cap d most w p ov out) (g0 g1 g2 g3 g4 : Nat) (hp : p + 5 ≤ d.length) (hd : ∀ i, i < 5 → nth d (p + i) = nth [g0, g1, g2, g3, g4] i) (hg : ∀ i, i < 5 → 33 ≤ nth [g0, g1, g2, g3, g4] i ∧ nth [g0, g1, g2, g3, g4] i ≤ 117)
    (V : Nat) (hV : a85V [g0, g1, g2, g3, g4] 0 = V) (hm : V ≤ 4294967295) (ho : out.length + 4 ≤ most) :
    Calls Tryd.prog 33 #[.pointer (some ⟨br, 0, none⟩)] w fun e w' => e = .returned (.bool true) ∧ ∃ ov', Rd B br bd off cap d most w' (p + 5) ov' (out ++ a85Out V) ∧ Kept 5 B [br] w w' := by
  have HAB : Hid (∀ W : World, Calls Tryd.prog 55 #[.agg (byteVals (partly [g0, g1, g2, g3, g4] 5)).toArray] W fun e w' => e = .returned (.agg #[.int .u8 (V / 16777216 : Nat), .int .u8 (V / 65536 % 256 : Nat), .int .u8 (V / 256 % 256 : Nat), .int .u8 (V % 256 : Nat)]) ∧ Below W.heap.size W w') := by
    rw [show partly [g0, g1, g2, g3, g4] 5 = [g0, g1, g2, g3, g4] from partly_all [g0, g1, g2, g3, g4]]
    exact fun W => a85Bytes_ok g0 g1 g2 g3 g4 (hg 0 (by omega)) (hg 1 (by omega)) (hg 2 (by omega)) (hg 3 (by omega)) (hg 4 (by omega)) V hV hm W
  have hG : [g0, g1, g2, g3, g4].length = 5 := rfl
  obtain ⟨n, hn5⟩ : ∃ n, n = 5 := ⟨5, rfl⟩
  rw [← hn5] at hd hg HAB
  generalize [g0, g1, g2, g3, g4] = G at *
  have HN5 := hide hn5
  have HD := hide hd
  have HG := hide hg
  have hbr := lt_of_block h.blk
  have hlen := h.cp
  have hlc := h.lc
  have hb0 : (w.alloc (.cells (byteVals (partly G 0)).toArray 61 (0, 0))).heap[w.heap.size]? = some (.cells (byteVals (partly G 0)).toArray 61 (0, 0)) := blk_new _ _
  have e0 : (byteVals (partly G 0)).toArray = #[.int .u8 0, .int .u8 0, .int .u8 0, .int .u8 0, .int .u8 0] := by
    rw [partly_zero, hG]; rfl
  rw [e0] at hb0
  have HB0 := hide hb0
  have E0 := hide e0
  have HR0 := hide (h.alloc (.cells #[.int .u8 0, .int .u8 0, .int .u8 0, .int .u8 0, .int .u8 0] 61 (0, 0)))
  clear hd hg hV hb0 e0 h
  go_enter Tryd.func33, Tryd.ntmps33
  go_wp2
  go_loopw [7] (fun i wr => ∃ k : Nat, k ≤ n ∧ i = .int .i64 k ∧ wr.heap[w.heap.size]? = some (.cells (byteVals (partly G k)).toArray 61 (0, 0)) ∧ Rd B br bd off cap d most wr (p + k) ov out ∧ Kept 5 B [br] w wr) (fun i _ => 5 - (intOf i).toNat)
  case atStart => exact ⟨0, by omega, rfl, by rw [E0.out]; exact HB0.out, HR0.out, (Kept.refl _ _ _ _).alloc _⟩
  clear HB0 E0 HR0
  case round =>
    obtain ⟨k, hk, rfl, hb, hr, kk⟩ := hrel
    have lit0 : (({ data := #[126, 62] } : ByteArray)[0]'(by decide)).toNat = 126 := rfl
    have lit1 : (({ data := #[126, 62] } : ByteArray)[1]'(by decide)).toNat = 62 := rfl
    have hbB := hr.hB
    have hBb := hr.hb
    by_cases hkn : k < n
    · have hg := HG.out k hkn
      have HN := hide (nextInk_ok hr (by omega) (by rw [HD.out k hkn]; exact dig_white _ (by omega) (by omega)))
      rw [HD.out k hkn] at HN
      have HST := hide (partly_step G k (by omega))
      have hlp : (partly G k).length = 5 := by rw [partly_length, hG]
      generalize nth G k = g at *
      have e1 : ((g : Int) == 126) = false := by simp; omega
      have e2 : ((g : Int) == 122) = false := by simp; omega
      have HBK := hide hb
      have HKK := hide kk
      have hk5 : k < 5 := by omega
      clear hb kk hr
      go_wp2_with fail
      refine HN.out.mono ?_
      rintro e w1 ⟨rfl, r1, k1⟩
      have hb1 := k1.block w.heap.size _ (by simp; omega) HBK.out (Or.inr (by intro c fz e; simp at e))
      obtain ⟨x, hx⟩ : ∃ x, w1.cell? ⟨w.heap.size, k, none⟩ = some x := by
        rw [cell_blk hb1]
        exact ⟨_, Array.getElem?_eq_getElem (by simp [byteVals, hlp]; omega)⟩
      have fx : w1.frozen? ⟨w.heap.size, k, none⟩ = false := free_blk hb1
      have HB2 : Hid ((w1.setCell ⟨w.heap.size, k, none⟩ (.int .u8 (g : Nat))).heap[w.heap.size]? = some (.cells (byteVals (partly G (k + 1))).toArray 61 (0, 0))) := by
        unfold Hid
        rw [blk_setCell _ hb1, HST.out]
        exact congrArg (fun C => some (Obj.cells C 61 (0, 0))) (byteVals_set (partly G k) k g)
      have HR2 := hide (r1.other (i := k) hb1 (by decide) (by omega) (by omega) (.int .u8 (g : Nat)))
      have HK2 := hide (Kept.setNew (HKK.out.trans k1) (q := ⟨w.heap.size, k, none⟩) (Nat.le_refl _) (.int .u8 (g : Nat)))
      clear r1 k1 hb1 HBK HKK HN HST
      go_wp2_with (first | (go_at_call 54; refine (within_byte_yes _ _ _ _ (by omega) (by omega)).mono ?_; rintro e w' ⟨rfl, rfl⟩) | (go_at_call 39; refine (must_yes _).mono ?_; rintro e w' ⟨rfl, rfl⟩))
      go_roundw
      case rel => exact ⟨k + 1, by omega, by go_num, HB2.out, HR2.out, HK2.out⟩
      case measure => simp [intOf]; omega
    · obtain rfl : k = n := by omega
      subst hn5
      have hcs := range_of_blk hb
      have hi5 : Hid ((Tryd.prog.info? 61).map (·.size) = some (byteVals (partly G 5)).length) := by
        unfold Hid byteVals; rw [List.length_map, partly_length, hG]; kernel_rfl
      have KK := hide kk
      have HR := hide hr
      clear hb kk hr HN5
      go_wp2_with (refine wpList_load_mid rfl 61 (.tmp 3) rfl w.heap.size 0 rfl _ _ hcs.out Tryd.underlying61 rfl hi5.out ?_)
      refine (HAB.out _).mono ?_
      rintro e w1 ⟨rfl, b1⟩
      have HR1 := hide (HR.out.ofBelow b1)
      have K1 := hide (KK.out.trans (Kept.ofBelow' b1))
      clear HR KK b1 HAB hcs hi5
      have HP := hide (put_ok (HR1.out.alloc (.cells #[.int .u8 (V / 16777216 : Nat), .int .u8 (V / 65536 % 256 : Nat), .int .u8 (V / 256 % 256 : Nat), .int .u8 (V % 256 : Nat)] 43)) (a85Out V) ⟨w1.heap.size, 0, none⟩ 4 ho (by have := HR1.out.sz; simp; omega) (by
        intro i hi
        have h4 : i < 4 := hi
        rw [addr_add, cell_blk (blk_new _ _)]
        match i, h4 with
        | 0, _ => rfl
        | 1, _ => rfl
        | 2, _ => rfl
        | 3, _ => rfl))
      have hl4 : (a85Out V).length = 4 := rfl
      rw [hl4] at HP
      go_wp2_with fail
      refine HP.out.mono ?_
      rintro e w2 ⟨rfl, ov', r2, k2⟩
      go_wp2
      go_ret
      exact ⟨rfl, ov', r2, (K1.out.alloc _).trans k2⟩

set_option maxRecDepth 100000 in
set_option maxHeartbeats 2000000 in
theorem a85Group_full_cap (h : Rd B br bd off cap d most w p ov out) (g0 g1 g2 g3 g4 : Nat) (hp : p + 5 ≤ d.length) (hd : ∀ i, i < 5 → nth d (p + i) = nth [g0, g1, g2, g3, g4] i) (hg : ∀ i, i < 5 → 33 ≤ nth [g0, g1, g2, g3, g4] i ∧ nth [g0, g1, g2, g3, g4] i ≤ 117)
    (V : Nat) (hV : a85V [g0, g1, g2, g3, g4] 0 = V) (hm : V ≤ 4294967295) (ho : most < out.length + 4) :
    Calls Tryd.prog 33 #[.pointer (some ⟨br, 0, none⟩)] w fun e w' => e = gaveUp 6 ∧ Kept 5 B [br] w w' := by
  have HAB : Hid (∀ W : World, Calls Tryd.prog 55 #[.agg (byteVals (partly [g0, g1, g2, g3, g4] 5)).toArray] W fun e w' => e = .returned (.agg #[.int .u8 (V / 16777216 : Nat), .int .u8 (V / 65536 % 256 : Nat), .int .u8 (V / 256 % 256 : Nat), .int .u8 (V % 256 : Nat)]) ∧ Below W.heap.size W w') := by
    rw [show partly [g0, g1, g2, g3, g4] 5 = [g0, g1, g2, g3, g4] from partly_all [g0, g1, g2, g3, g4]]
    exact fun W => a85Bytes_ok g0 g1 g2 g3 g4 (hg 0 (by omega)) (hg 1 (by omega)) (hg 2 (by omega)) (hg 3 (by omega)) (hg 4 (by omega)) V hV hm W
  have hG : [g0, g1, g2, g3, g4].length = 5 := rfl
  obtain ⟨n, hn5⟩ : ∃ n, n = 5 := ⟨5, rfl⟩
  rw [← hn5] at hd hg HAB
  generalize [g0, g1, g2, g3, g4] = G at *
  have HN5 := hide hn5
  have HD := hide hd
  have HG := hide hg
  have hbr := lt_of_block h.blk
  have hlen := h.cp
  have hlc := h.lc
  have hb0 : (w.alloc (.cells (byteVals (partly G 0)).toArray 61 (0, 0))).heap[w.heap.size]? = some (.cells (byteVals (partly G 0)).toArray 61 (0, 0)) := blk_new _ _
  have e0 : (byteVals (partly G 0)).toArray = #[.int .u8 0, .int .u8 0, .int .u8 0, .int .u8 0, .int .u8 0] := by
    rw [partly_zero, hG]; rfl
  rw [e0] at hb0
  have HB0 := hide hb0
  have E0 := hide e0
  have HR0 := hide (h.alloc (.cells #[.int .u8 0, .int .u8 0, .int .u8 0, .int .u8 0, .int .u8 0] 61 (0, 0)))
  clear hd hg hV hb0 e0 h
  go_enter Tryd.func33, Tryd.ntmps33
  go_wp2
  go_loopw [7] (fun i wr => ∃ k : Nat, k ≤ n ∧ i = .int .i64 k ∧ wr.heap[w.heap.size]? = some (.cells (byteVals (partly G k)).toArray 61 (0, 0)) ∧ Rd B br bd off cap d most wr (p + k) ov out ∧ Kept 5 B [br] w wr) (fun i _ => 5 - (intOf i).toNat)
  case atStart => exact ⟨0, by omega, rfl, by rw [E0.out]; exact HB0.out, HR0.out, (Kept.refl _ _ _ _).alloc _⟩
  clear HB0 E0 HR0
  case round =>
    obtain ⟨k, hk, rfl, hb, hr, kk⟩ := hrel
    have lit0 : (({ data := #[126, 62] } : ByteArray)[0]'(by decide)).toNat = 126 := rfl
    have lit1 : (({ data := #[126, 62] } : ByteArray)[1]'(by decide)).toNat = 62 := rfl
    have hbB := hr.hB
    have hBb := hr.hb
    by_cases hkn : k < n
    · have hg := HG.out k hkn
      have HN := hide (nextInk_ok hr (by omega) (by rw [HD.out k hkn]; exact dig_white _ (by omega) (by omega)))
      rw [HD.out k hkn] at HN
      have HST := hide (partly_step G k (by omega))
      have hlp : (partly G k).length = 5 := by rw [partly_length, hG]
      generalize nth G k = g at *
      have e1 : ((g : Int) == 126) = false := by simp; omega
      have e2 : ((g : Int) == 122) = false := by simp; omega
      have HBK := hide hb
      have HKK := hide kk
      have hk5 : k < 5 := by omega
      clear hb kk hr
      go_wp2_with fail
      refine HN.out.mono ?_
      rintro e w1 ⟨rfl, r1, k1⟩
      have hb1 := k1.block w.heap.size _ (by simp; omega) HBK.out (Or.inr (by intro c fz e; simp at e))
      obtain ⟨x, hx⟩ : ∃ x, w1.cell? ⟨w.heap.size, k, none⟩ = some x := by
        rw [cell_blk hb1]
        exact ⟨_, Array.getElem?_eq_getElem (by simp [byteVals, hlp]; omega)⟩
      have fx : w1.frozen? ⟨w.heap.size, k, none⟩ = false := free_blk hb1
      have HB2 : Hid ((w1.setCell ⟨w.heap.size, k, none⟩ (.int .u8 (g : Nat))).heap[w.heap.size]? = some (.cells (byteVals (partly G (k + 1))).toArray 61 (0, 0))) := by
        unfold Hid
        rw [blk_setCell _ hb1, HST.out]
        exact congrArg (fun C => some (Obj.cells C 61 (0, 0))) (byteVals_set (partly G k) k g)
      have HR2 := hide (r1.other (i := k) hb1 (by decide) (by omega) (by omega) (.int .u8 (g : Nat)))
      have HK2 := hide (Kept.setNew (HKK.out.trans k1) (q := ⟨w.heap.size, k, none⟩) (Nat.le_refl _) (.int .u8 (g : Nat)))
      clear r1 k1 hb1 HBK HKK HN HST
      go_wp2_with (first | (go_at_call 54; refine (within_byte_yes _ _ _ _ (by omega) (by omega)).mono ?_; rintro e w' ⟨rfl, rfl⟩) | (go_at_call 39; refine (must_yes _).mono ?_; rintro e w' ⟨rfl, rfl⟩))
      go_roundw
      case rel => exact ⟨k + 1, by omega, by go_num, HB2.out, HR2.out, HK2.out⟩
      case measure => simp [intOf]; omega
    · obtain rfl : k = n := by omega
      subst hn5
      have hcs := range_of_blk hb
      have hi5 : Hid ((Tryd.prog.info? 61).map (·.size) = some (byteVals (partly G 5)).length) := by
        unfold Hid byteVals; rw [List.length_map, partly_length, hG]; kernel_rfl
      have KK := hide kk
      have HR := hide hr
      clear hb kk hr HN5
      go_wp2_with (refine wpList_load_mid rfl 61 (.tmp 3) rfl w.heap.size 0 rfl _ _ hcs.out Tryd.underlying61 rfl hi5.out ?_)
      refine (HAB.out _).mono ?_
      rintro e w1 ⟨rfl, b1⟩
      have HR1 := hide (HR.out.ofBelow b1)
      have K1 := hide (KK.out.trans (Kept.ofBelow' b1))
      clear HR KK b1 HAB hcs hi5
      have HP := hide (put_no (HR1.out.alloc (.cells #[.int .u8 (V / 16777216 : Nat), .int .u8 (V / 65536 % 256 : Nat), .int .u8 (V / 256 % 256 : Nat), .int .u8 (V % 256 : Nat)] 43)) 4 (some ⟨w1.heap.size, 0, none⟩) 4 (by omega) ho)
      go_wp2_with fail
      refine HP.out.mono ?_
      rintro e w2 ⟨rfl, q, rfl⟩
      exact ⟨rfl, rfl, (K1.out.alloc _).drewN q⟩

set_option maxRecDepth 100000 in
set_option maxHeartbeats 1000000 in
theorem a85Group_z (h : Rd B br bd off cap d most w p ov out) (hp : p < d.length) (h1 : nth d p = 122) (ho : out.length + 4 ≤ most) :
    Calls Tryd.prog 33 #[.pointer (some ⟨br, 0, none⟩)] w fun e w' => e = .returned (.bool true) ∧ ∃ ov', Rd B br bd off cap d most w' (p + 1) ov' (out ++ [0, 0, 0, 0]) ∧ Kept 5 B [br] w w' := by
  have hbr := lt_of_block h.blk
  have HR0 := hide (h.alloc (.cells #[.int .u8 0, .int .u8 0, .int .u8 0, .int .u8 0, .int .u8 0] 61))
  have lit0 : (({ data := #[126, 62] } : ByteArray)[0]'(by decide)).toNat = 126 := rfl
  clear h
  go_enter Tryd.func33, Tryd.ntmps33
  go_wp2
  go_loopw [7] (fun i wr => i = .int .i64 0 ∧ wr = w.alloc (.cells #[.int .u8 0, .int .u8 0, .int .u8 0, .int .u8 0, .int .u8 0] 61)) (fun _ _ => 0)
  case atStart => exact ⟨rfl, rfl⟩
  case round =>
    obtain ⟨rfl, rfl⟩ := hrel
    have HN := hide (nextInk_ok HR0.out hp (by rw [h1]; rfl))
    rw [h1] at HN
    go_wp2_with fail
    refine HN.out.mono ?_
    rintro e w1 ⟨rfl, r1, k1⟩
    have HR1 := hide r1
    have K1 := hide (((Kept.refl 5 B [br] w).alloc _).trans k1)
    clear r1 k1 HN HR0
    go_wp2_with fail
    refine (put_ok (HR1.out.alloc (.cells #[.int .u8 0, .int .u8 0, .int .u8 0, .int .u8 0] 5)) [0, 0, 0, 0] ⟨w1.heap.size, 0, none⟩ 4 ho (by have := HR1.out.sz; simp; omega) (by
      intro i hi
      have h4 : i < 4 := hi
      rw [addr_add, cell_blk (blk_new _ _)]
      match i, h4 with
      | 0, _ => rfl
      | 1, _ => rfl
      | 2, _ => rfl
      | 3, _ => rfl)).mono ?_
    rintro e w2 ⟨rfl, ov', r2, k2⟩
    go_wp2
    go_ret
    exact ⟨rfl, ov', r2, (K1.out.alloc _).trans k2⟩


set_option maxRecDepth 100000 in
set_option maxHeartbeats 1000000 in
theorem a85Group_z_cap (h : Rd B br bd off cap d most w p ov out) (hp : p < d.length) (h1 : nth d p = 122) (ho : most < out.length + 4) :
    Calls Tryd.prog 33 #[.pointer (some ⟨br, 0, none⟩)] w fun e w' => e = gaveUp 6 ∧ Kept 5 B [br] w w' := by
  have hbr := lt_of_block h.blk
  have HR0 := hide (h.alloc (.cells #[.int .u8 0, .int .u8 0, .int .u8 0, .int .u8 0, .int .u8 0] 61))
  have lit0 : (({ data := #[126, 62] } : ByteArray)[0]'(by decide)).toNat = 126 := rfl
  clear h
  go_enter Tryd.func33, Tryd.ntmps33
  go_wp2
  go_loopw [7] (fun i wr => i = .int .i64 0 ∧ wr = w.alloc (.cells #[.int .u8 0, .int .u8 0, .int .u8 0, .int .u8 0, .int .u8 0] 61)) (fun _ _ => 0)
  case atStart => exact ⟨rfl, rfl⟩
  case round =>
    obtain ⟨rfl, rfl⟩ := hrel
    have HN := hide (nextInk_ok HR0.out hp (by rw [h1]; rfl))
    rw [h1] at HN
    go_wp2_with fail
    refine HN.out.mono ?_
    rintro e w1 ⟨rfl, r1, k1⟩
    have HR1 := hide r1
    have K1 := hide (((Kept.refl 5 B [br] w).alloc _).trans k1)
    clear r1 k1 HN HR0
    go_wp2_with fail
    refine (put_no (HR1.out.alloc (.cells #[.int .u8 0, .int .u8 0, .int .u8 0, .int .u8 0] 5)) 4 (some ⟨w1.heap.size, 0, none⟩) 4 (by omega) ho).mono ?_
    rintro e w2 ⟨rfl, q, rfl⟩
    exact ⟨rfl, rfl, (K1.out.alloc _).drewN q⟩


end Go.Proofs.YtgkljcmjnphpeaaDoor
/- What the filter of 85 digits has written, read: whole, with too little room, without its last byte. -/
namespace Go.Proofs.YtgkljcmjnphpeaaDoor
open Go.RowKit
variable {B br bd off cap : Nat} {d : List Nat} {most : Nat} {w : World} {p : Nat} {ov : Value} {out : List Nat}

theorem nth_of_drop {q : Nat} {A R : List Nat} (h : d.drop q = A ++ R) (i : Nat) (hi : i < A.length) : nth d (q + i) = nth A i := by
  have e : nth (d.drop q) i = nth d (q + i) := by simp [nth, List.getElem?_drop]
  rw [← e, h]
  simp [nth, List.getElem?_append_left hi]
theorem nth_of_drop2 {q : Nat} {A R : List Nat} (h : d.drop q = A ++ R) (i : Nat) : nth d (q + A.length + i) = nth R i := by
  have e : nth (d.drop q) (A.length + i) = nth d (q + A.length + i) := by simp [nth, List.getElem?_drop, Nat.add_assoc]
  rw [← e, h]
  simp [nth, List.getElem?_append_right]
theorem len_of_drop {q : Nat} {X : List Nat} (h : d.drop q = X) (hX : 0 < X.length) : d.length = q + X.length := by
  have := congrArg List.length h
  rw [List.length_drop] at this
  omega
theorem take_more {data : List Nat} {p : Nat} {A R : List Nat} (h : data.drop p = A ++ R) : data.take p ++ A = data.take (p + A.length) := by
  have e : data.take (p + A.length) = data.take p ++ (data.drop p).take A.length := by rw [List.take_add]
  rw [e, h, List.take_left' rfl]
theorem drop_more {data : List Nat} {p : Nat} {A R : List Nat} (h : data.drop p = A ++ R) : data.drop (p + A.length) = R := by
  rw [← List.drop_drop, h, List.drop_left' rfl]

/-- How far the digits have been read; t: what stands behind the end mark's first sign. -/
def I85 (data d : List Nat) (cutl : List Nat → List Nat) (q : Nat) (out : List Nat) : Prop := ∃ p, p ≤ data.length ∧ out = data.take p ∧ d.drop q = cutl (enc85 (data.drop p))

/-- One group that is whole. -/
theorem whole_step {data : List Nat} (byt : ∀ x ∈ data, x < 256) {p q b0 b1 b2 b3 : Nat} {l T : List Nat} (hl : data.drop p = b0 :: b1 :: b2 :: b3 :: l) (hp : p ≤ data.length) (hd : d.drop q = (if b0 = 0 ∧ b1 = 0 ∧ b2 = 0 ∧ b3 = 0 then [122] else dig5 (val4 b0 b1 b2 b3)) ++ T) (hT : 0 < T.length) :
    (p + 4 ≤ most → ∃ q' out', q < q' ∧ out' = data.take (p + 4) ∧ d.drop q' = T ∧ PGo 33 B br bd off cap d most q (data.take p) true q' out') ∧
    (most < p + 4 → PNo 33 B br bd off cap d most q (data.take p) 6) := by
  have hlen : (data.take p).length = p := by rw [List.length_take]; omega
  have hmem : ∀ x ∈ [b0, b1, b2, b3], x < 256 := fun x hx => byt x (List.mem_of_mem_drop (by rw [hl]; simp at hx ⊢; rcases hx with h | h | h | h <;> simp [h]))
  have h0 := hmem b0 (by simp)
  have h1 := hmem b1 (by simp)
  have h2 := hmem b2 (by simp)
  have h3 := hmem b3 (by simp)
  have ht : data.take p ++ [b0, b1, b2, b3] = data.take (p + 4) := take_more (A := [b0, b1, b2, b3]) (R := l) hl
  by_cases hz : b0 = 0 ∧ b1 = 0 ∧ b2 = 0 ∧ b3 = 0
  · rw [if_pos hz] at hd
    obtain ⟨rfl, rfl, rfl, rfl⟩ := hz
    have hdl := len_of_drop hd (by simp)
    have n0 : nth d q = 122 := nth_of_drop (A := [122]) hd 0 (by simp)
    simp only [List.length_append, List.length_singleton] at hdl
    refine ⟨fun hm => ⟨q + 1, data.take p ++ [0, 0, 0, 0], by omega, ht, drop_more (A := [122]) hd, fun w ov h => a85Group_z h (by omega) n0 (by omega)⟩, fun hm => fun w ov h => a85Group_z_cap h (by omega) n0 (by omega)⟩
  · rw [if_neg hz] at hd
    have hv := val4_lt h0 h1 h2 h3
    have hrg := dig5_range hv
    have hvv := dig5_val hv
    have hou := out_val h0 h1 h2 h3
    generalize val4 b0 b1 b2 b3 = V at *
    have hl5 : (dig5 V).length = 5 := rfl
    have hdl := len_of_drop hd (by simp [hl5]; omega)
    rw [List.length_append, hl5] at hdl
    have hdg : ∀ i, i < 5 → nth d (q + i) = nth (dig5 V) i := fun i hi => nth_of_drop hd i (by rw [hl5]; exact hi)
    have hdr : d.drop (q + 5) = T := drop_more (A := dig5 V) hd
    rw [← hou] at ht
    refine ⟨fun hm => ⟨q + 5, data.take p ++ a85Out V, by omega, ht, hdr, fun w ov h => a85Group_full h _ _ _ _ _ (by omega) hdg hrg V hvv hv (by omega)⟩, fun hm => fun w ov h => a85Group_full_cap h _ _ _ _ _ (by omega) hdg hrg V hvv hv (by omega)⟩

/-- The last group, of fewer bytes. -/
theorem short_step {data : List Nat} {p q m V S : Nat} {l : List Nat} (hl : data.drop p = l) (hp : p ≤ data.length) (hlm : l.length + 1 = m) (hm : 2 ≤ m) (hm4 : m ≤ 4) (hv : V ≤ 4294967295) (hS : shortV (nth (dig5 V) 0) (nth (dig5 V) 1) (nth (dig5 V) 2) (nth (dig5 V) 3) m = S) (hS2 : S ≤ 4294967295) (hout : (a85Out S).take (m - 1) = l) :
    (d.drop q = (dig5 V).take m ++ [126, 62] → (data.length ≤ most → PGo 33 B br bd off cap d most q (data.take p) false d.length data) ∧ (most < data.length → PNo 33 B br bd off cap d most q (data.take p) 6)) ∧
    (d.drop q = (dig5 V).take m ++ [126] → PNo 33 B br bd off cap d most q (data.take p) 5) := by
  have hlen : (data.take p).length = p := by rw [List.length_take]; omega
  have hdl : data.length = p + l.length := by have := congrArg List.length hl; rw [List.length_drop] at this; omega
  have ht : data.take p ++ l = data := by rw [← hl, List.take_append_drop]
  have hl5 : (dig5 V).length = 5 := rfl
  have htm : ((dig5 V).take m).length = m := by rw [List.length_take, hl5]; omega
  have hrg := dig5_range hv
  have hnt : ∀ i, i < m → nth ((dig5 V).take m) i = nth (dig5 V) i := fun i hi => by simp [nth, List.getElem?_take, hi]
  constructor
  · intro hd
    have hlen2 := len_of_drop hd (by simp)
    rw [List.length_append, htm] at hlen2
    simp only [List.length_cons, List.length_nil] at hlen2
    have e1 : nth d (q + m) = 126 := by have := nth_of_drop2 hd 0; rw [htm] at this; exact this
    have e2 : nth d (q + m + 1) = 62 := by have := nth_of_drop2 hd 1; rw [htm] at this; exact this
    have hdg : ∀ i, i < m → nth d (q + i) = nth (dig5 V) i := fun i hi => (nth_of_drop hd i (by rw [htm]; exact hi)).trans (hnt i hi)
    refine ⟨fun hmo => fun w ov h => ?_, fun hmo => fun w ov h => a85Group_short_cap h (dig5 V) hl5 m hm hm4 (by omega) hdg (fun i hi => hrg i (by omega)) e1 e2 S hS hS2 (by omega)⟩
    have := a85Group_short h (dig5 V) hl5 m hm hm4 (by omega) hdg (fun i hi => hrg i (by omega)) e1 e2 S hS hS2 (by omega)
    rw [hout, ht, show q + m + 2 = d.length by omega] at this
    exact this
  · intro hd
    have hlen2 := len_of_drop hd (by simp)
    rw [List.length_append, htm] at hlen2
    simp only [List.length_cons, List.length_nil] at hlen2
    have e1 : nth d (q + m) = 126 := by have := nth_of_drop2 hd 0; rw [htm] at this; exact this
    have hdg : ∀ i, i < m → nth d (q + i) = nth (dig5 V) i := fun i hi => (nth_of_drop hd i (by rw [htm]; exact hi)).trans (hnt i hi)
    exact fun w ov h => a85Group_cut h (dig5 V) hl5 m hm4 (by omega) hdg (fun i hi => hrg i (by omega)) e1

theorem enc85_pos (l : List Nat) : 2 ≤ (enc85 l).length := by
  match l with
  | [] => simp [enc85]
  | [b0] => simp [enc85]
  | [b0, b1] => simp [enc85]
  | [b0, b1, b2] => simp [enc85]
  | b0 :: b1 :: b2 :: b3 :: l =>
    have := enc85_pos l
    simp only [enc85, List.length_append]; omega

theorem cut_append (A : List Nat) (l : List Nat) : (A ++ enc85 l).dropLast = A ++ (enc85 l).dropLast := by
  have := enc85_pos l
  rw [List.dropLast_append_of_ne_nil (by intro h; rw [h] at this; simp at this)]
theorem cut_pos (l : List Nat) : 0 < (enc85 l).dropLast.length := by
  have := enc85_pos l
  rw [List.length_dropLast]; omega

theorem decodeA85_ok (data : List Nat) (byt : ∀ x ∈ data, x < 256) (hd : d = enc85 data) (h : Rd B br bd off cap d most w 0 ov []) (hm : data.length ≤ most) :
    Calls Tryd.prog 20 #[.pointer (some ⟨br, 0, none⟩)] w fun e w' => e = .returned (.tuple #[]) ∧ ∃ ov', Rd B br bd off cap d most w' d.length ov' data ∧ Kept 5 B [br] w w' := by
  refine decodeA85_inv (fun q out => ∃ p, p ≤ data.length ∧ out = data.take p ∧ d.drop q = enc85 (data.drop p)) ?_ ⟨0, by omega, by simp, by simpa using hd⟩ h
  rintro q out ⟨p, hp, rfl, hdr⟩ _
  have hb : ∀ x ∈ data.drop p, x < 256 := fun x hx => byt x (List.mem_of_mem_drop hx)
  match hl : data.drop p with
  | [] =>
    rw [hl] at hdr
    have hpl : p = data.length := by have := congrArg List.length hl; simp at this; omega
    have hlen := len_of_drop hdr (by simp [enc85])
    right
    intro w ov h
    have := a85Group_end h (by simp [enc85] at hlen; omega) (nth_of_drop (A := [126, 62]) (R := []) hdr 0 (by simp)) (nth_of_drop (A := [126, 62]) (R := []) hdr 1 (by simp))
    rw [show q + 2 = d.length by simp [enc85] at hlen; omega, hpl, List.take_length] at this
    rw [hpl, List.take_length] at *
    exact this
  | [b0] =>
    rw [hl] at hdr hb
    have h0 := hb b0 (by simp)
    obtain ⟨s1, s2⟩ := short1 h0
    exact Or.inr (((short_step (m := 2) hl hp rfl (by omega) (by omega) (val4_lt h0 (by omega) (by omega) (by omega)) rfl s1 s2).1 hdr).1 hm)
  | [b0, b1] =>
    rw [hl] at hdr hb
    have h0 := hb b0 (by simp)
    have h1 := hb b1 (by simp)
    obtain ⟨s1, s2⟩ := short2 h0 h1
    exact Or.inr (((short_step (m := 3) hl hp rfl (by omega) (by omega) (val4_lt h0 h1 (by omega) (by omega)) rfl s1 s2).1 hdr).1 hm)
  | [b0, b1, b2] =>
    rw [hl] at hdr hb
    have h0 := hb b0 (by simp)
    have h1 := hb b1 (by simp)
    have h2 := hb b2 (by simp)
    obtain ⟨s1, s2⟩ := short3 h0 h1 h2
    exact Or.inr (((short_step (m := 4) hl hp rfl (by omega) (by omega) (val4_lt h0 h1 h2 (by omega)) rfl s1 s2).1 hdr).1 hm)
  | b0 :: b1 :: b2 :: b3 :: l =>
    rw [hl] at hdr
    have hlen : p + 4 ≤ data.length := by have := congrArg List.length hl; simp at this; omega
    obtain ⟨q', out', a1, a2, a3, a4⟩ := (whole_step (B := B) (br := br) (bd := bd) (off := off) (cap := cap) (most := most) byt hl hp hdr (by have := enc85_pos l; omega)).1 (by omega)
    exact Or.inl ⟨q', out', a1, ⟨p + 4, hlen, a2, by rw [a3, show data.drop (p + 4) = l from drop_more (A := [b0, b1, b2, b3]) (R := l) hl]⟩, a4⟩

theorem decodeA85_cap (data : List Nat) (byt : ∀ x ∈ data, x < 256) (hd : d = enc85 data) (h : Rd B br bd off cap d most w 0 ov []) (hm : most < data.length) :
    Calls Tryd.prog 20 #[.pointer (some ⟨br, 0, none⟩)] w fun e w' => e = gaveUp 6 ∧ Kept 5 B [br] w w' := by
  refine decodeA85_inv_fails (fun q out => ∃ p, p ≤ data.length ∧ out = data.take p ∧ d.drop q = enc85 (data.drop p)) ?_ ⟨0, by omega, by simp, by simpa using hd⟩ h
  rintro q out ⟨p, hp, rfl, hdr⟩ hlo
  rw [List.length_take, Nat.min_eq_left hp] at hlo
  have hb : ∀ x ∈ data.drop p, x < 256 := fun x hx => byt x (List.mem_of_mem_drop hx)
  match hl : data.drop p with
  | [] =>
    have hpl : p = data.length := by have := congrArg List.length hl; simp at this; omega
    omega
  | [b0] =>
    rw [hl] at hdr hb
    have h0 := hb b0 (by simp)
    obtain ⟨s1, s2⟩ := short1 h0
    exact Or.inr (((short_step (m := 2) hl hp rfl (by omega) (by omega) (val4_lt h0 (by omega) (by omega) (by omega)) rfl s1 s2).1 hdr).2 hm)
  | [b0, b1] =>
    rw [hl] at hdr hb
    have h0 := hb b0 (by simp)
    have h1 := hb b1 (by simp)
    obtain ⟨s1, s2⟩ := short2 h0 h1
    exact Or.inr (((short_step (m := 3) hl hp rfl (by omega) (by omega) (val4_lt h0 h1 (by omega) (by omega)) rfl s1 s2).1 hdr).2 hm)
  | [b0, b1, b2] =>
    rw [hl] at hdr hb
    have h0 := hb b0 (by simp)
    have h1 := hb b1 (by simp)
    have h2 := hb b2 (by simp)
    obtain ⟨s1, s2⟩ := short3 h0 h1 h2
    exact Or.inr (((short_step (m := 4) hl hp rfl (by omega) (by omega) (val4_lt h0 h1 h2 (by omega)) rfl s1 s2).1 hdr).2 hm)
  | b0 :: b1 :: b2 :: b3 :: l =>
    rw [hl] at hdr
    have hlen : p + 4 ≤ data.length := by have := congrArg List.length hl; simp at this; omega
    obtain ⟨k1, k2⟩ := whole_step (B := B) (br := br) (bd := bd) (off := off) (cap := cap) (most := most) byt hl hp hdr (by have := enc85_pos l; omega)
    by_cases c : p + 4 ≤ most
    · obtain ⟨q', out', a1, a2, a3, a4⟩ := k1 c
      exact Or.inl ⟨q', out', a1, ⟨p + 4, hlen, a2, by rw [a3, show data.drop (p + 4) = l from drop_more (A := [b0, b1, b2, b3]) (R := l) hl]⟩, a4⟩
    · exact Or.inr (k2 (by omega))

theorem decodeA85_cut (data : List Nat) (byt : ∀ x ∈ data, x < 256) (hd : d = (enc85 data).dropLast) (h : Rd B br bd off cap d most w 0 ov []) (hm : data.length ≤ most) :
    Calls Tryd.prog 20 #[.pointer (some ⟨br, 0, none⟩)] w fun e w' => e = gaveUp 5 ∧ Kept 5 B [br] w w' := by
  refine decodeA85_inv_fails (fun q out => ∃ p, p ≤ data.length ∧ out = data.take p ∧ d.drop q = (enc85 (data.drop p)).dropLast) ?_ ⟨0, by omega, by simp, by simpa using hd⟩ h
  rintro q out ⟨p, hp, rfl, hdr⟩ _
  have hb : ∀ x ∈ data.drop p, x < 256 := fun x hx => byt x (List.mem_of_mem_drop hx)
  match hl : data.drop p with
  | [] =>
    rw [hl] at hdr
    have hlen := len_of_drop hdr (by simp [enc85])
    have hq : q + 0 + 1 = d.length := by simp [enc85] at hlen; omega
    exact Or.inr fun w ov h => a85Group_cut h [0, 0, 0, 0, 0] rfl 0 (by omega) hq (fun i hi => by omega) (fun i hi => by omega) (nth_of_drop (A := [126]) (R := []) hdr 0 (by simp))
  | [b0] =>
    rw [hl] at hdr hb
    have h0 := hb b0 (by simp)
    obtain ⟨s1, s2⟩ := short1 h0
    exact Or.inr ((short_step (m := 2) hl hp rfl (by omega) (by omega) (val4_lt h0 (by omega) (by omega) (by omega)) rfl s1 s2).2 (hdr.trans (by simp [enc85])))
  | [b0, b1] =>
    rw [hl] at hdr hb
    have h0 := hb b0 (by simp)
    have h1 := hb b1 (by simp)
    obtain ⟨s1, s2⟩ := short2 h0 h1
    exact Or.inr ((short_step (m := 3) hl hp rfl (by omega) (by omega) (val4_lt h0 h1 (by omega) (by omega)) rfl s1 s2).2 (hdr.trans (by simp [enc85])))
  | [b0, b1, b2] =>
    rw [hl] at hdr hb
    have h0 := hb b0 (by simp)
    have h1 := hb b1 (by simp)
    have h2 := hb b2 (by simp)
    obtain ⟨s1, s2⟩ := short3 h0 h1 h2
    exact Or.inr ((short_step (m := 4) hl hp rfl (by omega) (by omega) (val4_lt h0 h1 h2 (by omega)) rfl s1 s2).2 (hdr.trans (by simp [enc85])))
  | b0 :: b1 :: b2 :: b3 :: l =>
    rw [hl] at hdr
    have hlen : p + 4 ≤ data.length := by have := congrArg List.length hl; simp at this; omega
    obtain ⟨q', out', a1, a2, a3, a4⟩ := (whole_step (B := B) (br := br) (bd := bd) (off := off) (cap := cap) (most := most) byt hl hp (hdr.trans (cut_append _ l)) (cut_pos l)).1 (by omega)
    exact Or.inl ⟨q', out', a1, ⟨p + 4, hlen, a2, by rw [a3, show data.drop (p + 4) = l from drop_more (A := [b0, b1, b2, b3]) (R := l) hl]⟩, a4⟩
end Go.Proofs.YtgkljcmjnphpeaaDoor
