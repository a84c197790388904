/- The filter of 85 digits, written: a85Digits, appendGroup. -/
import Derived.Test.YtgkljcmjnphpeaaDoorA85X
import Derived.Test.YtgkljcmjnphpeaaDoorSBlk
import Derived.Test.YtgkljcmjnphpeaaDoorSetC
import Derived.Laws.BitsAllLaws
import Derived.Deep.MidRow
import Derived.Test.YtgkljcmjnphpeaaDoorApS
import Derived.Test.YtgkljcmjnphpeaaDoorRunW
import Derived.Laws.CopyOwn
set_option linter.unusedVariables false
set_option linter.unusedSimpArgs false
/- The filter of 85 digits, written: a85Digits, appendGroup. -/
namespace Go.Proofs.YtgkljcmjnphpeaaDoor
open Go.RowKit
variable {w : World} {B cap : Nat} {ao : Option Addr} {data : List Nat}

theorem or_val (b0 b1 b2 b3 : Nat) (h0 : b0 < 256) (h1 : b1 < 256) (h2 : b2 < 256) (h3 : b3 < 256) :
    bits .or .u32 (bits .or .u32 (bits .or .u32 ((b0 * 16777216 : Nat) : Int) ((b1 * 65536 : Nat) : Int)) ((b2 * 256 : Nat) : Int)) ((b3 : Nat) : Int) = ((val4 b0 b1 b2 b3 : Nat) : Int) := by
  rw [u32_or_nat _ _ (by omega) (by omega)]
  have e1 : b0 * 16777216 ||| b1 * 65536 = b0 * 16777216 + b1 * 65536 := by
    have := or_low (b1 * 65536) b0 24 (by omega)
    rw [Nat.or_comm, show b0 * 16777216 = b0 * 2 ^ 24 by omega, this]; omega
  rw [e1, u32_or_nat _ _ (by omega) (by omega)]
  have e2 : (b0 * 16777216 + b1 * 65536) ||| b2 * 256 = b0 * 16777216 + b1 * 65536 + b2 * 256 := by
    have := or_low (b2 * 256) (b0 * 256 + b1) 16 (by omega)
    rw [Nat.or_comm, show b0 * 16777216 + b1 * 65536 = (b0 * 256 + b1) * 2 ^ 16 by omega, this]; omega
  rw [e2, u32_or_nat _ _ (by omega) (by omega)]
  have e3 : (b0 * 16777216 + b1 * 65536 + b2 * 256) ||| b3 = b0 * 16777216 + b1 * 65536 + b2 * 256 + b3 := by
    have := or_low b3 (b0 * 65536 + b1 * 256 + b2) 8 (by omega)
    rw [Nat.or_comm, show b0 * 16777216 + b1 * 65536 + b2 * 256 = (b0 * 65536 + b1 * 256 + b2) * 2 ^ 8 by omega, this]; omega
  rw [e3]; rfl

/-- Digits from the last on. -/
def digAt (V : Nat) : Nat → List Nat
  | 0 => [0, 0, 0, 0, 0]
  | k + 1 => (digAt V k).set (4 - k) (33 + V / 85 ^ k % 85)
theorem digAt_five {V : Nat} (h : V ≤ 4294967295) : digAt V 5 = dig5 V := by
  have : V / 52200625 % 85 = V / 52200625 := by omega
  show [33 + V / 85 ^ 4 % 85, 33 + V / 85 ^ 3 % 85, 33 + V / 85 ^ 2 % 85, 33 + V / 85 ^ 1 % 85, 33 + V / 85 ^ 0 % 85] = dig5 V
  unfold dig5
  simp only [show (85 : Nat) ^ 4 = 52200625 from rfl, show (85 : Nat) ^ 3 = 614125 from rfl, show (85 : Nat) ^ 2 = 7225 from rfl, show (85 : Nat) ^ 1 = 85 from rfl, show (85 : Nat) ^ 0 = 1 from rfl, Nat.div_one, this]
theorem digAt_len (V k : Nat) : (digAt V k).length = 5 := by
  induction k with
  | zero => rfl
  | succ k ih => simp [digAt, ih]

set_option maxRecDepth 100000 in
set_option maxHeartbeats 1000000 in
theorem a85Digits_ok (b0 b1 b2 b3 : Nat) (h0 : b0 < 256) (h1 : b1 < 256) (h2 : b2 < 256) (h3 : b3 < 256) (w : World) :
    Calls Tryd.prog 41 #[.agg #[.int .u8 b0, .int .u8 b1, .int .u8 b2, .int .u8 b3]] w fun e w' => e = .returned (.agg (byteVals (dig5 (val4 b0 b1 b2 b3))).toArray) ∧ Below w.heap.size w w' := by
  have hor := or_val b0 b1 b2 b3 h0 h1 h2 h3
  have hvl := val4_lt h0 h1 h2 h3
  have HDF := hide (digAt_five hvl)
  generalize val4 b0 b1 b2 b3 = V at *
  have hor' : bits .or .u32 (bits .or .u32 (bits .or .u32 ((b0 : Int) * 16777216) ((b1 : Int) * 65536)) ((b2 : Int) * 256)) (b3 : Int) = (V : Int) := by
    rw [show (b0 : Int) * 16777216 = ((b0 * 16777216 : Nat) : Int) by omega, show (b1 : Int) * 65536 = ((b1 * 65536 : Nat) : Int) by omega, show (b2 : Int) * 256 = ((b2 * 256 : Nat) : Int) by omega]
    exact hor
  clear hor
  go_enter Tryd.func41, Tryd.ntmps41
  go_wp2
  generalize hW : World.alloc (World.alloc (World.alloc w _) _) _ = W
  have hbW : Below w.heap.size w W := by rw [← hW]; exact ((((Below.refl _ _).alloc (Nat.le_refl _) _).alloc (by simp) _).alloc (by simp; omega) _)
  have hblk0 : W.heap[w.heap.size + 1 + 1]? = some (.cells #[.int .u8 0, .int .u8 0, .int .u8 0, .int .u8 0, .int .u8 0] 61 (0, 0)) := by
    rw [← hW]
    have := blk_new ((w.alloc (.cells #[.int .u8 b0, .int .u8 b1, .int .u8 b2, .int .u8 b3] 43)).alloc (.cells #[.int .u8 0, .int .u8 0, .int .u8 0, .int .u8 0, .int .u8 0] 61 (0, 0))) (.cells #[.int .u8 0, .int .u8 0, .int .u8 0, .int .u8 0, .int .u8 0] 61 (0, 0))
    simpa using this
  have hblk : W.heap[w.heap.size + 1 + 1]? = some (.cells (byteVals (digAt V 0)).toArray 61 (0, 0)) := hblk0
  have hblk2 : W.heap[w.heap.size + 1]? = some (.cells #[.int .u8 0, .int .u8 0, .int .u8 0, .int .u8 0, .int .u8 0] 61 (0, 0)) := by
    rw [← hW]
    have := blk_alloc (.cells #[.int .u8 0, .int .u8 0, .int .u8 0, .int .u8 0, .int .u8 0] 61 (0, 0)) (blk_new (w.alloc (.cells #[.int .u8 b0, .int .u8 b1, .int .u8 b2, .int .u8 b3] 43)) (.cells #[.int .u8 0, .int .u8 0, .int .u8 0, .int .u8 0, .int .u8 0] 61 (0, 0)))
    simpa using this
  have HBW := hide hbW
  have HBK := hide hblk
  have HB2 := hide hblk2
  clear hW hbW hblk hblk0 hblk2 hor' h0 h1 h2 h3
  go_loopw [3, 5] (fun n i wr => ∃ k : Nat, k ≤ 5 ∧ i = .int .i64 (4 - (k : Int)) ∧ n = .int .u32 (V / 85 ^ k : Nat) ∧ wr.heap[w.heap.size + 1 + 1]? = some (.cells (byteVals (digAt V k)).toArray 61 (0, 0)) ∧ wr.heap[w.heap.size + 1]? = some (.cells #[.int .u8 0, .int .u8 0, .int .u8 0, .int .u8 0, .int .u8 0] 61 (0, 0)) ∧ Below w.heap.size w wr) (fun _ i _ => (intOf i + 1).toNat)
  case atStart => exact ⟨0, by omega, rfl, by rw [Nat.pow_zero, Nat.div_one], HBK.out, HB2.out, HBW.out⟩
  case round =>
    obtain ⟨k, hk, rfl, rfl, hb, hb2, bl⟩ := hrel
    have HST : Hid (∀ D, D = 33 + V / 85 ^ k % 85 → digAt V (k + 1) = (digAt V k).set (4 - k) D) := fun D hD => by rw [hD]; rfl
    have HQ : Hid (V / 85 ^ (k + 1) = V / 85 ^ k / 85) := by
      unfold Hid
      rw [Nat.div_div_eq_div_mul, Nat.pow_succ]
    have hX : V / 85 ^ k ≤ 4294967295 := Nat.le_trans (Nat.div_le_self _ _) hvl
    generalize V / 85 ^ k = X at *
    have hln := digAt_len V k
    by_cases hk5 : k < 5
    · obtain ⟨i, hi⟩ : ∃ i, i = 4 - k := ⟨_, rfl⟩
      have ei : (4 : Int) - k = (i : Int) := by omega
      rw [ei]
      have hi5 : i < 5 := by omega
      obtain ⟨x, hx⟩ : ∃ x, wr.cell? ⟨w.heap.size + 1 + 1, i, none⟩ = some x := by
        rw [cell_blk hb]
        exact ⟨_, Array.getElem?_eq_getElem (by simp [byteVals, hln]; omega)⟩
      have fx : wr.frozen? ⟨w.heap.size + 1 + 1, i, none⟩ = false := free_blk hb
      have HN : Hid ((wr.setCell ⟨w.heap.size + 1 + 1, i, none⟩ (.int .u8 (33 + (X : Int) % 85))).heap[w.heap.size + 1 + 1]? = some (.cells (byteVals (digAt V (k + 1))).toArray 61 (0, 0))) := by
        unfold Hid
        rw [show (33 + (X : Int) % 85) = ((33 + X % 85 : Nat) : Int) by omega, HST.out (33 + X % 85) rfl, blk_setCell _ hb, ← hi]
        exact congrArg (fun C => some (Obj.cells C 61 (0, 0))) (byteVals_set (digAt V k) i (33 + X % 85))
      have HN2 : Hid ((wr.setCell ⟨w.heap.size + 1 + 1, i, none⟩ (.int .u8 (33 + (X : Int) % 85))).heap[w.heap.size + 1]? = some (.cells #[.int .u8 0, .int .u8 0, .int .u8 0, .int .u8 0, .int .u8 0] 61 (0, 0))) := by
        unfold Hid
        rw [blk_setCell_ne _ (by omega)]; exact hb2
      have HBL := hide (bl.setCell (p := ⟨w.heap.size + 1 + 1, i, none⟩) (show w.heap.size ≤ w.heap.size + 1 + 1 by omega) (.int .u8 (33 + (X : Int) % 85)))
      have Hki := hide hi
      clear hb hb2 bl HST hln ei hi
      go_wp2
      go_roundw
      case rel => exact ⟨k + 1, by omega, by have := Hki.out; congr 1; omega, by rw [HQ.out]; exact congrArg (Value.int .u32) (show ((X : Int) / 85) = ((X / 85 : Nat) : Int) by omega), HN.out, HN2.out, HBL.out⟩
      case measure => simp [intOf]
    · obtain rfl : k = 5 := by omega
      have hm1 : (4 : Int) - ((5 : Nat) : Int) = -1 := by omega
      rw [hm1]
      rw [HDF.out] at hb
      have hlen5 : (byteVals (dig5 V)).length = 5 := by unfold byteVals; rw [List.length_map]; rfl
      have hcs := range_of_blk hb
      have hi5 : Hid ((Tryd.prog.info? 61).map (·.size) = some (byteVals (dig5 V)).length) := by unfold Hid; rw [hlen5]; kernel_rfl
      have hszA : (byteVals (dig5 V)).toArray.size = 5 := List.size_toArray.trans hlen5
      have hi5' : Hid ((Tryd.prog.info? 61).map (·.size) = some (byteVals (dig5 V)).toArray.size) := by unfold Hid; rw [hszA]; kernel_rfl
      have ht5 : Hid (wr.there (w.heap.size + 1) 0 (byteVals (dig5 V)).toArray.size) := by
        unfold Hid
        rw [hszA]
        intro j hj
        refine ⟨?_, free_blk hb2⟩
        rw [cell_blk hb2, Nat.zero_add, Array.getElem?_eq_getElem (by simpa using hj)]; rfl
      have hone : (byteVals (dig5 V)).toArray.all (·.oneCell') = true := by simp [byteVals, Value.oneCell']
      have hz5 : (#[Value.int .u8 0, .int .u8 0, .int .u8 0, .int .u8 0, .int .u8 0] : Array Value).size = 5 := rfl
      have hfin := hide (setCells_whole (vs := byteVals (dig5 V)) hb2 (hz5.trans hlen5.symm))
      have hbel := hide (setCells_below (w.heap.size + 1) w.heap.size (by omega) (byteVals (dig5 V)) 0 _ _ bl)
      clear hb hb2 bl HST HQ hX hln hm1
      generalize hBV : byteVals (dig5 V) = BV at *
      have HBV := hide hBV
      clear hBV
      go_wp2_with (first | (refine wpList_load_mid rfl 61 (.tmp 4) rfl (w.heap.size + 1 + 1) 0 rfl _ _ hcs.out Tryd.underlying61 rfl hi5.out ?_) | (refine wpList_store_mid rfl 61 (.tmp 2) (.tmp 36) rfl (w.heap.size + 1) 0 BV.toArray rfl rfl ht5.out hi5'.out hone ?_))
      refine bodyPost_ret (v := .agg BV.toArray) ?_ rfl ⟨by rw [HBV.out], hbel.out⟩
      exact results_cell_row Tryd.results41 _ _ (w.heap.size + 1) 61 _ _ _ rfl hfin.out Tryd.underlying61 rfl hi5'.out

theorem ownB {B : Nat} {e : TypeId} {k : Nat} {v : Value} {n : Nat} {xs : List Value} {w w' : World} (h : w.ownsRow B e k v n xs) (b : Below w.heap.size w w') : w'.ownsRow B e k v n xs := by
  obtain ⟨h1, h2⟩ := h
  refine ⟨h1, ?_⟩
  rcases h2 with h2 | ⟨g, c, cur, e1, e2, hh, hc⟩
  · exact Or.inl h2
  · exact Or.inr ⟨g, c, cur, e1, e2, by rw [b.block _ (lt_of_block hh)]; exact hh, hc⟩
theorem Kept.thenB {e B : Nat} {S : List Nat} {a b c : World} (h : Kept e B S a b) (k : Below b.heap.size b c) : Kept e B S a c :=
  h.trans ⟨k.os, k.tape, k.output, k.size, fun i o _ ho _ => by rw [k.block i (lt_of_block ho)]; exact ho⟩

/-- What is written for a group. -/
def part85 (b0 b1 b2 b3 n : Nat) : List Nat := if n = 4 ∧ b0 = 0 ∧ b1 = 0 ∧ b2 = 0 ∧ b3 = 0 then [122] else (dig5 (val4 b0 b1 b2 b3)).take (n + 1)

theorem run_build43 (W : World) : (Instr.build 43 #[]).run Tryd.prog W = .ok (.agg #[.int .u8 0, .int .u8 0, .int .u8 0, .int .u8 0]) W := by kernel_rfl
theorem run_slice61_2 (b : Nat) (W : World) : (Instr.sliceAt 61 (.pointer (some ⟨b, 0, none⟩)) none (some (.int .i64 2)) none).run Tryd.prog W = .ok (.slice (some ⟨b, 0, none⟩) 2 5) W := by kernel_rfl
theorem run_slice61_3 (b : Nat) (W : World) : (Instr.sliceAt 61 (.pointer (some ⟨b, 0, none⟩)) none (some (.int .i64 3)) none).run Tryd.prog W = .ok (.slice (some ⟨b, 0, none⟩) 3 5) W := by kernel_rfl
theorem run_slice61_4 (b : Nat) (W : World) : (Instr.sliceAt 61 (.pointer (some ⟨b, 0, none⟩)) none (some (.int .i64 4)) none).run Tryd.prog W = .ok (.slice (some ⟨b, 0, none⟩) 4 5) W := by kernel_rfl
theorem run_slice61_5 (b : Nat) (W : World) : (Instr.sliceAt 61 (.pointer (some ⟨b, 0, none⟩)) none (some (.int .i64 5)) none).run Tryd.prog W = .ok (.slice (some ⟨b, 0, none⟩) 5 5) W := by kernel_rfl
theorem run_slice61 (b n : Nat) (hn : 1 ≤ n) (hn2 : n ≤ 4) (W : World) : (Instr.sliceAt 61 (.pointer (some ⟨b, 0, none⟩)) none (some (.int .i64 ((n : Int) + 1))) none).run Tryd.prog W = .ok (.slice (some ⟨b, 0, none⟩) (n + 1) 5) W := by
  obtain rfl | rfl | rfl | rfl : n = 1 ∨ n = 2 ∨ n = 3 ∨ n = 4 := by omega
  · exact run_slice61_2 b W
  · exact run_slice61_3 b W
  · exact run_slice61_4 b W
  · exact run_slice61_5 b W

theorem eq_zero4 (b0 b1 b2 b3 : Nat) (h0 : b0 < 256) (h1 : b1 < 256) (h2 : b2 < 256) (h3 : b3 < 256) (t : Bool) (ht : decide (b0 = 0 ∧ b1 = 0 ∧ b2 = 0 ∧ b3 = 0) = t) (W : World) :
    (Op.equalIn 10000 43 (.agg #[.int .u8 (b0 : Int), .int .u8 (b1 : Int), .int .u8 (b2 : Int), .int .u8 (b3 : Int)]) (.agg #[.int .u8 0, .int .u8 0, .int .u8 0, .int .u8 0])).run Tryd.prog W = .ok t W := by
  have := run_eq4 b0 b1 b2 b3 0 0 0 0 h0 h1 h2 h3 (by omega) (by omega) (by omega) (by omega) W
  have e : decide ([b0, b1, b2, b3] = [0, 0, 0, 0]) = t := by rw [← ht]; simp
  rw [e] at this
  exact this

theorem news1w {w : World} : ∀ j u, ([122].map fun x : Nat => Value.int .u8 (x : Int))[j]? = some u → (w.alloc (.cells #[.int .u8 122] 5)).cell? ((⟨w.heap.size, 0, none⟩ : Addr).add j) = some u := by
  intro j u hu
  match j, hu with
  | 0, hu => rw [addr_add, World.cell?_alloc_new]; exact hu
  | j + 1, hu => simp at hu

set_option maxRecDepth 100000 in
set_option maxHeartbeats 1000000 in
theorem appendGroup_ok (v : Value) (xs : List Nat) (hown : w.ownsRow B 5 1 v xs.length (xs.map fun x : Nat => .int .u8 (x : Int))) (hB : B ≤ w.heap.size) (hx : xs.length ≤ 1000000) (b0 b1 b2 b3 n : Nat) (h0 : b0 < 256) (h1 : b1 < 256) (h2 : b2 < 256) (h3 : b3 < 256) (hn : 1 ≤ n) (hn2 : n ≤ 4) :
    Calls Tryd.prog 24 #[v, .agg #[.int .u8 b0, .int .u8 b1, .int .u8 b2, .int .u8 b3], .int .i64 n] w fun e w' => ∃ v', e = .returned v' ∧ w'.ownsRow B 5 1 v' (xs ++ part85 b0 b1 b2 b3 n).length ((xs ++ part85 b0 b1 b2 b3 n).map fun x : Nat => .int .u8 (x : Int)) ∧ Kept 5 B [] w w' := by
  obtain ⟨i0, hi, hz0, hz1, hz2⟩ := info_parts Tryd.infoByte
  obtain ⟨a0, c0, rfl⟩ := own_slice hown
  have hbd := run_build43
  have HO := hide hown
  clear hown
  by_cases hz : n = 4 ∧ b0 = 0 ∧ b1 = 0 ∧ b2 = 0 ∧ b3 = 0
  · have hp : part85 b0 b1 b2 b3 n = [122] := by unfold part85; rw [if_pos hz]
    rw [hp]
    obtain ⟨rfl, rfl, rfl, rfl, rfl⟩ := hz
    have heq : ∀ W, (Op.equalIn 10000 43 (.agg #[.int .u8 0, .int .u8 0, .int .u8 0, .int .u8 0]) (.agg #[.int .u8 0, .int .u8 0, .int .u8 0, .int .u8 0])).run Tryd.prog W = .ok true W := eq_zero4 0 0 0 0 h0 h1 h2 h3 true (by decide)
    go_enter Tryd.func24, Tryd.ntmps24
    go_wp2_with (at_builtin; refine wpList_append_own _ rfl (.tmp 15) (.tmp 16) 22 rfl B 5 i0 (.int .u8 0) 1 1 Tryd.underlying22 hi hz0 hz1 hz2 rfl (by decide) (.slice a0 xs.length c0) xs.length _ rfl ((HO.out.alloc _).alloc _) ⟨w.heap.size + 1, 0, none⟩ 1 1 ([122].map fun x : Nat => .int .u8 (x : Int)) rfl rfl ?hnews ?hone ?h63 ?hby ?hbs ?_)
    case hnews =>
      have e : w.heap.size + 1 = (w.alloc (.cells #[.int .u8 0, .int .u8 0, .int .u8 0, .int .u8 0] 43)).heap.size := by simp
      rw [e]
      exact news1w
    case hone => intro u hu; simp at hu; subst hu; rfl
    case h63 => unfold maxLen; omega
    case hby => omega
    case hbs => simp; omega
    intro v' w2 hr2 hg2 _
    have K2 := (((Kept.refl 5 B [] w).alloc _).alloc _).grown hg2 (own_row ((HO.out.alloc _).alloc _))
    clear hg2
    go_wp2
    go_ret
    refine ⟨v', rfl, ?_, K2⟩
    rw [List.map_append, List.length_append]; exact hr2
  · have hp : part85 b0 b1 b2 b3 n = (dig5 (val4 b0 b1 b2 b3)).take (n + 1) := by unfold part85; rw [if_neg hz]
    rw [hp]
    have hlt : ((dig5 (val4 b0 b1 b2 b3)).take (n + 1)).length = n + 1 := by rw [List.length_take]; show min (n + 1) 5 = _; omega
    have HDG := hide (a85Digits_ok b0 b1 b2 b3 h0 h1 h2 h3)
    have hDG : (dig5 (val4 b0 b1 b2 b3)).length = 5 := rfl
    generalize dig5 (val4 b0 b1 b2 b3) = DG at *
    clear hp
    by_cases hn4 : n = 4
    · have heq := eq_zero4 b0 b1 b2 b3 h0 h1 h2 h3 false (decide_eq_false (fun h => hz ⟨hn4, h⟩))
      have e4 : ((n : Int) == 4) = true := by simp; omega
      clear hn4 hz
      go_enter Tryd.func24, Tryd.ntmps24
      go_wp2_with fail
      refine HDG.out _ |>.mono ?_
      rintro e w1 ⟨rfl, b1'⟩
      have O1 := hide (ownB (HO.out.alloc (.cells #[.int .u8 (b0 : Int), .int .u8 (b1 : Int), .int .u8 (b2 : Int), .int .u8 (b3 : Int)] 43)) b1')
      have K1 := hide (Kept.thenB ((Kept.refl 5 B [] w).alloc (.cells #[.int .u8 (b0 : Int), .int .u8 (b1 : Int), .int .u8 (b2 : Int), .int .u8 (b3 : Int)] 43)) b1')
      have hs1 : B ≤ w1.heap.size := by have := b1'.size; simp at this; omega
      clear b1' HO HDG
      have hone : (byteVals DG).toArray.all (·.oneCell') = true := by simp [byteVals, Value.oneCell']
      have hszA : (byteVals DG).toArray.size = 5 := by simp [byteVals, hDG]
      have hi5' : Hid ((Tryd.prog.info? 61).map (·.size) = some (byteVals DG).toArray.size) := by unfold Hid; rw [hszA]; kernel_rfl
      have hnew : (w1.alloc (.cells #[.int .u8 0, .int .u8 0, .int .u8 0, .int .u8 0, .int .u8 0] 61 (0, 0))).heap[w1.heap.size]? = some (.cells #[.int .u8 0, .int .u8 0, .int .u8 0, .int .u8 0, .int .u8 0] 61 (0, 0)) := blk_new _ _
      have ht5 : Hid ((w1.alloc (.cells #[.int .u8 0, .int .u8 0, .int .u8 0, .int .u8 0, .int .u8 0] 61 (0, 0))).there w1.heap.size 0 (byteVals DG).toArray.size) := by
        unfold Hid
        rw [hszA]
        intro j hj
        refine ⟨?_, free_blk hnew⟩
        rw [cell_blk hnew, Nat.zero_add, Array.getElem?_eq_getElem (by simpa using hj)]; rfl
      have hfin := hide (setCells_whole (vs := byteVals DG) hnew (by simp [byteVals, hDG]))
      have hoth : Hid (∀ k, k < w1.heap.size → ((w1.alloc (.cells #[.int .u8 0, .int .u8 0, .int .u8 0, .int .u8 0, .int .u8 0] 61 (0, 0))).setCells w1.heap.size 0 (byteVals DG)).heap[k]? = w1.heap[k]?) := fun k hk => by
        rw [setCells_ne _ (by omega)]
        show (w1.heap.push _)[k]? = _
        rw [Array.getElem?_push, if_neg (by omega)]
      have hsz2 : Hid (((w1.alloc (.cells #[.int .u8 0, .int .u8 0, .int .u8 0, .int .u8 0, .int .u8 0] 61 (0, 0))).setCells w1.heap.size 0 (byteVals DG)).heap.size = w1.heap.size + 1) := by
        unfold Hid
        rw [setCells_size]; simp
      have BK2 : Hid (Below w1.heap.size w1 ((w1.alloc (.cells #[.int .u8 0, .int .u8 0, .int .u8 0, .int .u8 0, .int .u8 0] 61 (0, 0))).setCells w1.heap.size 0 (byteVals DG))) := hide (setCells_below _ _ (Nat.le_refl _) _ _ _ _ ((Below.refl _ _).alloc (Nat.le_refl _) _))
      clear hnew hszA
      have hsl := run_slice61 w1.heap.size n hn hn2
      have O2 : Hid (∀ W2, (w1.alloc (.cells #[.int .u8 0, .int .u8 0, .int .u8 0, .int .u8 0, .int .u8 0] 61 (0, 0))).setCells w1.heap.size 0 (byteVals DG) = W2 → W2.ownsRow B 5 1 (.slice a0 xs.length c0) xs.length (xs.map fun x : Nat => .int .u8 (x : Int)) ∧ W2.heap[w1.heap.size]? = some (.cells (byteVals DG).toArray 61 (0, 0)) ∧ Kept 5 B [] w W2 ∧ W2.heap.size = w1.heap.size + 1) := by
        intro W2 hW
        subst hW
        exact ⟨ownB O1.out BK2.out, hfin.out, Kept.thenB K1.out BK2.out, hsz2.out⟩
      clear hfin hoth hsz2 BK2 O1 K1
      go_wp2_with (first | (refine wpList_store_mid rfl 61 (.tmp 7) (.tmp 19) rfl w1.heap.size 0 (byteVals DG).toArray rfl rfl ht5.out hi5'.out hone ?_; generalize hW2 : World.setCells (w1.alloc _) w1.heap.size 0 (byteVals DG) = W2; obtain ⟨o2, bk2, kp2, sz2⟩ := O2.out W2 hW2; have OO := hide o2; have BK := hide bk2; have KP := hide kp2; have SZ := hide sz2; clear hW2 o2 bk2 kp2 sz2 O2 ht5 hi5' hone) | (at_builtin; refine wpList_append_own _ rfl (.tmp 20) (.tmp 23) 22 rfl B 5 i0 (.int .u8 0) 1 1 Tryd.underlying22 hi hz0 hz1 hz2 rfl (by decide) (.slice a0 xs.length c0) xs.length _ rfl OO.out ⟨w1.heap.size, 0, none⟩ (n + 1) 5 (byteVals (DG.take (n + 1))) rfl (by unfold byteVals; rw [List.length_map, hlt, Nat.mul_one]) ?hnews ?hone ?h63 ?hby ?hbs ?_))
      case hnews =>
        intro j u hu
        rw [addr_add, cell_blk BK.out]
        unfold byteVals at hu ⊢
        rw [List.map_take, List.getElem?_take] at hu
        split at hu
        · simpa using hu
        · cases hu
      case hone => intro u hu; obtain ⟨x, _, rfl⟩ := List.mem_map.1 hu; rfl
      case h63 => unfold maxLen; omega
      case hby => omega
      case hbs => have := SZ.out; omega
      intro v' w2 hr2 hg2 _
      have K2 := hide (KP.out.grown hg2 (own_row OO.out))
      have R2 := hide hr2
      clear hg2 hr2
      go_wp2
      go_ret
      refine ⟨v', rfl, ?_, K2.out⟩
      rw [List.map_append, List.length_append, hlt]; exact R2.out
    · have e4 : ((n : Int) == 4) = false := by simp; omega
      clear hz
      go_enter Tryd.func24, Tryd.ntmps24
      go_wp2_with fail
      refine HDG.out _ |>.mono ?_
      rintro e w1 ⟨rfl, b1'⟩
      have O1 := hide (ownB (HO.out.alloc (.cells #[.int .u8 (b0 : Int), .int .u8 (b1 : Int), .int .u8 (b2 : Int), .int .u8 (b3 : Int)] 43)) b1')
      have K1 := hide (Kept.thenB ((Kept.refl 5 B [] w).alloc (.cells #[.int .u8 (b0 : Int), .int .u8 (b1 : Int), .int .u8 (b2 : Int), .int .u8 (b3 : Int)] 43)) b1')
      have hs1 : B ≤ w1.heap.size := by have := b1'.size; simp at this; omega
      clear b1' HO HDG
      have hone : (byteVals DG).toArray.all (·.oneCell') = true := by simp [byteVals, Value.oneCell']
      have hszA : (byteVals DG).toArray.size = 5 := by simp [byteVals, hDG]
      have hi5' : Hid ((Tryd.prog.info? 61).map (·.size) = some (byteVals DG).toArray.size) := by unfold Hid; rw [hszA]; kernel_rfl
      have hnew : (w1.alloc (.cells #[.int .u8 0, .int .u8 0, .int .u8 0, .int .u8 0, .int .u8 0] 61 (0, 0))).heap[w1.heap.size]? = some (.cells #[.int .u8 0, .int .u8 0, .int .u8 0, .int .u8 0, .int .u8 0] 61 (0, 0)) := blk_new _ _
      have ht5 : Hid ((w1.alloc (.cells #[.int .u8 0, .int .u8 0, .int .u8 0, .int .u8 0, .int .u8 0] 61 (0, 0))).there w1.heap.size 0 (byteVals DG).toArray.size) := by
        unfold Hid
        rw [hszA]
        intro j hj
        refine ⟨?_, free_blk hnew⟩
        rw [cell_blk hnew, Nat.zero_add, Array.getElem?_eq_getElem (by simpa using hj)]; rfl
      have hfin := hide (setCells_whole (vs := byteVals DG) hnew (by simp [byteVals, hDG]))
      have hoth : Hid (∀ k, k < w1.heap.size → ((w1.alloc (.cells #[.int .u8 0, .int .u8 0, .int .u8 0, .int .u8 0, .int .u8 0] 61 (0, 0))).setCells w1.heap.size 0 (byteVals DG)).heap[k]? = w1.heap[k]?) := fun k hk => by
        rw [setCells_ne _ (by omega)]
        show (w1.heap.push _)[k]? = _
        rw [Array.getElem?_push, if_neg (by omega)]
      have hsz2 : Hid (((w1.alloc (.cells #[.int .u8 0, .int .u8 0, .int .u8 0, .int .u8 0, .int .u8 0] 61 (0, 0))).setCells w1.heap.size 0 (byteVals DG)).heap.size = w1.heap.size + 1) := by
        unfold Hid
        rw [setCells_size]; simp
      have BK2 : Hid (Below w1.heap.size w1 ((w1.alloc (.cells #[.int .u8 0, .int .u8 0, .int .u8 0, .int .u8 0, .int .u8 0] 61 (0, 0))).setCells w1.heap.size 0 (byteVals DG))) := hide (setCells_below _ _ (Nat.le_refl _) _ _ _ _ ((Below.refl _ _).alloc (Nat.le_refl _) _))
      clear hnew hszA
      have hsl := run_slice61 w1.heap.size n hn hn2
      have O2 : Hid (∀ W2, (w1.alloc (.cells #[.int .u8 0, .int .u8 0, .int .u8 0, .int .u8 0, .int .u8 0] 61 (0, 0))).setCells w1.heap.size 0 (byteVals DG) = W2 → W2.ownsRow B 5 1 (.slice a0 xs.length c0) xs.length (xs.map fun x : Nat => .int .u8 (x : Int)) ∧ W2.heap[w1.heap.size]? = some (.cells (byteVals DG).toArray 61 (0, 0)) ∧ Kept 5 B [] w W2 ∧ W2.heap.size = w1.heap.size + 1) := by
        intro W2 hW
        subst hW
        exact ⟨ownB O1.out BK2.out, hfin.out, Kept.thenB K1.out BK2.out, hsz2.out⟩
      clear hfin hoth hsz2 BK2 O1 K1
      go_wp2_with (first | (refine wpList_store_mid rfl 61 (.tmp 7) (.tmp 19) rfl w1.heap.size 0 (byteVals DG).toArray rfl rfl ht5.out hi5'.out hone ?_; generalize hW2 : World.setCells (w1.alloc _) w1.heap.size 0 (byteVals DG) = W2; obtain ⟨o2, bk2, kp2, sz2⟩ := O2.out W2 hW2; have OO := hide o2; have BK := hide bk2; have KP := hide kp2; have SZ := hide sz2; clear hW2 o2 bk2 kp2 sz2 O2 ht5 hi5' hone) | (at_builtin; refine wpList_append_own _ rfl (.tmp 20) (.tmp 23) 22 rfl B 5 i0 (.int .u8 0) 1 1 Tryd.underlying22 hi hz0 hz1 hz2 rfl (by decide) (.slice a0 xs.length c0) xs.length _ rfl OO.out ⟨w1.heap.size, 0, none⟩ (n + 1) 5 (byteVals (DG.take (n + 1))) rfl (by unfold byteVals; rw [List.length_map, hlt, Nat.mul_one]) ?hnews ?hone ?h63 ?hby ?hbs ?_))
      case hnews =>
        intro j u hu
        rw [addr_add, cell_blk BK.out]
        unfold byteVals at hu ⊢
        rw [List.map_take, List.getElem?_take] at hu
        split at hu
        · simpa using hu
        · cases hu
      case hone => intro u hu; obtain ⟨x, _, rfl⟩ := List.mem_map.1 hu; rfl
      case h63 => unfold maxLen; omega
      case hby => omega
      case hbs => have := SZ.out; omega
      intro v' w2 hr2 hg2 _
      have K2 := hide (KP.out.grown hg2 (own_row OO.out))
      have R2 := hide hr2
      clear hg2 hr2
      go_wp2
      go_ret
      refine ⟨v', rfl, ?_, K2.out⟩
      rw [List.map_append, List.length_append, hlt]; exact R2.out
end Go.Proofs.YtgkljcmjnphpeaaDoor
/- encodeA85. -/
namespace Go.Proofs.YtgkljcmjnphpeaaDoor
open Go.RowKit
variable {w : World} {B cap : Nat} {ao : Option Addr} {data : List Nat}

theorem enc85_step (l : List Nat) (h : 0 < l.length) : enc85 l = part85 (nth l 0) (nth l 1) (nth l 2) (nth l 3) (min l.length 4) ++ enc85 (l.drop (min l.length 4)) := by
  match l, h with
  | [b0], _ => rfl
  | [b0, b1], _ => rfl
  | [b0, b1, b2], _ => rfl
  | b0 :: b1 :: b2 :: b3 :: l, _ =>
    have e : min (b0 :: b1 :: b2 :: b3 :: l).length 4 = 4 := by simp
    rw [e]
    show (if b0 = 0 ∧ b1 = 0 ∧ b2 = 0 ∧ b3 = 0 then [122] else dig5 (val4 b0 b1 b2 b3)) ++ enc85 l = part85 b0 b1 b2 b3 4 ++ enc85 l
    congr 1
    unfold part85
    by_cases c : b0 = 0 ∧ b1 = 0 ∧ b2 = 0 ∧ b3 = 0
    · rw [if_pos c, if_pos ⟨rfl, c⟩]
    · rw [if_neg c, if_neg (fun h => c h.2)]; rfl
theorem part85_len (b0 b1 b2 b3 n : Nat) (hn : 1 ≤ n) (hn2 : n ≤ 4) : (part85 b0 b1 b2 b3 n).length ≤ n + 1 := by
  unfold part85
  split
  · simp <;> omega
  · rw [List.length_take]; omega

theorem group_cells (l : List Nat) (h : 0 < l.length) : ((byteVals (l.take 4)) ++ ([Value.int .u8 0, .int .u8 0, .int .u8 0, .int .u8 0] : List Value).drop (byteVals (l.take 4)).length) = [.int .u8 (nth l 0 : Nat), .int .u8 (nth l 1 : Nat), .int .u8 (nth l 2 : Nat), .int .u8 (nth l 3 : Nat)] := by
  match l, h with
  | [b0], _ => rfl
  | [b0, b1], _ => rfl
  | [b0, b1, b2], _ => rfl
  | b0 :: b1 :: b2 :: b3 :: l, _ => rfl

theorem nth_lt {l : List Nat} (h : ∀ i, i < l.length → nth l i < 256) (i : Nat) : nth l i < 256 := by
  by_cases c : i < l.length
  · exact h i c
  · have : nth l i = 0 := by simp [nth, List.getElem?_eq_none (show l.length ≤ i by omega)]
    omega

set_option maxRecDepth 100000 in
set_option maxHeartbeats 2000000 in
theorem encodeA85_some {b o : Nat} (hd : Dat w B (some ⟨b, o, none⟩) data) (hB : B ≤ w.heap.size) (byt : ∀ i, i < data.length → nth data i < 256) (len : data.length ≤ 200000) (lc : data.length ≤ cap ∧ cap ≤ 9223372036854775807) :
    Calls Tryd.prog 16 #[.slice (some ⟨b, o, none⟩) data.length cap] w fun e w' => ∃ v, e = .returned v ∧ w'.ownsRow B 5 1 v (enc85 data).length ((enc85 data).map fun x : Nat => .int .u8 (x : Int)) ∧ Kept 5 B [] w w' := by
  obtain ⟨i0, hi, hz0, hz1, hz2⟩ := info_parts Tryd.infoByte
  have HR : Hid (enc85 (data.drop 0) = enc85 data) := hide rfl
  have HD := hide hd
  have BYT := hide byt
  generalize enc85 data = R at *
  clear hd byt
  go_enter Tryd.func16, Tryd.ntmps16
  go_wp2
  go_loopw [0, 3] (fun d v wr => ∃ (p : Nat) (out : List Nat) (pt : Addr), p ≤ data.length ∧ d = .slice (some pt) (data.length - p) (cap - p) ∧ (p < data.length → pt = ⟨b, o + p, none⟩) ∧ Hid (out ++ enc85 (data.drop p) = R) ∧ out.length ≤ 2 * p ∧ wr.ownsRow B 5 1 v out.length (out.map fun x : Nat => .int .u8 (x : Int)) ∧ Kept 5 B [] w wr) (fun d _ _ => sliceLen d)
  case atStart => exact ⟨0, [], ⟨b, o, none⟩, by omega, rfl, fun _ => rfl, HR, by simp, World.ownsRow_nil _ _ _ _, Kept.refl _ _ _ _⟩
  clear HR
  case round =>
    obtain ⟨p, out, pt, hp, rfl, hpt, HRR, hol, hr, kk⟩ := hrel
    obtain ⟨a0, c0, rfl⟩ := own_slice hr
    have HO := hide hr
    have KK := hide kk
    have hsz := kk.size
    clear hr kk
    by_cases hz : p < data.length
    · obtain rfl := hpt hz
      have HDw := hide ((HD.out.kept KK.out (by simp)).drop p)
      have HBl : Hid (∀ i, i < (data.drop p).length → nth (data.drop p) i < 256) := by
        intro i hi
        rw [List.length_drop] at hi
        have := BYT.out (p + i) (by omega)
        simpa [nth, List.getElem?_drop] using this
      have hll : data.length - p = (data.drop p).length := by rw [List.length_drop]
      have HDR : Hid (∀ n, (data.drop p).drop n = data.drop (p + n)) := fun n => by rw [List.drop_drop]
      rw [hll]
      generalize data.drop p = l at *
      have HLL := hide hll
      have h0 : 0 < l.length := by omega
      have h0' : (0 : Int) < l.length := by omega
      have hll1 : l.length ≤ 200000 := by omega
      have hcap : l.length ≤ cap - p := by omega
      clear hll
      have HST := hide (enc85_step l h0)
      have HGC := hide (group_cells l h0)
      obtain ⟨n, hn⟩ : ∃ n, n = min l.length 4 := ⟨_, rfl⟩
      have hnb : (byteVals (l.take 4)).length = n := by unfold byteVals; rw [List.length_map, List.length_take, Nat.min_comm]; exact hn.symm
      rw [← hn] at HST
      have hn1 : 1 ≤ n ∧ n ≤ 4 ∧ n ≤ l.length := by omega
      have q0 := nth_lt HBl.out 0
      have q1 := nth_lt HBl.out 1
      have q2 := nth_lt HBl.out 2
      have q3 := nth_lt HBl.out 3
      have hnew : (wr.alloc (.cells #[.int .u8 0, .int .u8 0, .int .u8 0, .int .u8 0] 43 (0, 0))).heap[wr.heap.size]? = some (.cells #[.int .u8 0, .int .u8 0, .int .u8 0, .int .u8 0] 43 (0, 0)) := blk_new _ _
      have hsrc : Hid (∀ j v, (byteVals (l.take 4))[j]? = some v → (wr.alloc (.cells #[.int .u8 0, .int .u8 0, .int .u8 0, .int .u8 0] 43 (0, 0))).cell? ((⟨b, o + p, none⟩ : Addr).add j) = some v) := by
        have hda : Dat (wr.alloc (.cells #[.int .u8 0, .int .u8 0, .int .u8 0, .int .u8 0] 43 (0, 0))) B (some ⟨b, o + p, none⟩) l := HDw.out.below ((Below.refl _ _).alloc (Nat.le_refl _) _)
        intro j v hv
        obtain ⟨hj, rfl⟩ := List.getElem?_eq_some_iff.1 hv
        rw [hnb] at hj
        obtain ⟨b', o', e1, _, e3⟩ := hda j (by omega)
        cases e1
        rw [addr_add2, e3]
        simp [byteVals, nth, List.getElem?_eq_getElem (show j < l.length by omega)]
      have hW2 : Hid (∀ W2, (wr.alloc (.cells #[.int .u8 0, .int .u8 0, .int .u8 0, .int .u8 0] 43 (0, 0))).setRow wr.heap.size (List.take 0 (#[Value.int .u8 0, .int .u8 0, .int .u8 0, .int .u8 0] : Array Value).toList ++ (byteVals (l.take 4) ++ List.drop (0 + (byteVals (l.take 4)).length) (#[Value.int .u8 0, .int .u8 0, .int .u8 0, .int .u8 0] : Array Value).toList)).toArray = W2 →
          W2.heap[wr.heap.size]? = some (.cells #[.int .u8 (nth l 0 : Nat), .int .u8 (nth l 1 : Nat), .int .u8 (nth l 2 : Nat), .int .u8 (nth l 3 : Nat)] 43 (0, 0)) ∧ Below wr.heap.size wr W2) := by
        intro W2 hW
        subst hW
        refine ⟨?_, below_setRow ((Below.refl _ _).alloc (Nat.le_refl _) _) (Nat.le_refl _) _⟩
        rw [setRow_heap _ _ _ _ _ _ hnew]
        have e : (List.take 0 (#[Value.int .u8 0, .int .u8 0, .int .u8 0, .int .u8 0] : Array Value).toList ++ (byteVals (l.take 4) ++ List.drop (0 + (byteVals (l.take 4)).length) (#[Value.int .u8 0, .int .u8 0, .int .u8 0, .int .u8 0] : Array Value).toList)) = [.int .u8 (nth l 0 : Nat), .int .u8 (nth l 1 : Nat), .int .u8 (nth l 2 : Nat), .int .u8 (nth l 3 : Nat)] := by
          rw [List.take_zero, List.nil_append, Nat.zero_add]; exact HGC.out
        rw [e]
      have hcp0 := run_copy_row (P := Tryd.prog) (wr.alloc (.cells #[.int .u8 0, .int .u8 0, .int .u8 0, .int .u8 0] 43 (0, 0))) 22 22 3 5 wr.heap.size 0 4 4 ⟨b, o + p, none⟩ l.length (cap - p) #[.int .u8 0, .int .u8 0, .int .u8 0, .int .u8 0] 43 (byteVals (l.take 4)) Tryd.underlying22 (by rw [hi]; simp [hz1]) hnew (by rw [hnb]; exact hn) hsrc.out (by rw [hnb]; show 0 + n ≤ 4; omega) (by intro v hv; obtain ⟨x, _, rfl⟩ := List.mem_map.1 hv; rfl)
      generalize hW : World.setRow _ wr.heap.size _ = W2 at hcp0
      obtain ⟨bk2, bl2⟩ := hW2.out W2 hW
      rw [hnb] at hcp0
      have hcp : (Builtin.copy_ #[22, 22] 3 #[.slice (some ⟨wr.heap.size, 0, none⟩) 4 4, .slice (some ⟨b, o + p, none⟩) l.length (cap - p)]).run Tryd.prog (wr.alloc (.cells #[.int .u8 0, .int .u8 0, .int .u8 0, .int .u8 0] 43)) = .ok (.int .i64 (n : Int)) W2 := hcp0
      have OO := hide (own_below HO.out bl2)
      have K2 := hide (Kept.thenBelow KK.out bl2)
      have hs2 : B ≤ W2.heap.size := by have := bl2.size; omega
      have g0 : W2.cell? ⟨wr.heap.size, 0, none⟩ = some (.int .u8 (nth l 0 : Nat)) := by rw [cell_blk bk2]; rfl
      have g1 : W2.cell? ⟨wr.heap.size, 1, none⟩ = some (.int .u8 (nth l 1 : Nat)) := by rw [cell_blk bk2]; rfl
      have g2 : W2.cell? ⟨wr.heap.size, 2, none⟩ = some (.int .u8 (nth l 2 : Nat)) := by rw [cell_blk bk2]; rfl
      have g3 : W2.cell? ⟨wr.heap.size, 3, none⟩ = some (.int .u8 (nth l 3 : Nat)) := by rw [cell_blk bk2]; rfl
      have HL2 := hide (part85_len (nth l 0) (nth l 1) (nth l 2) (nth l 3) n (by omega) (by omega))
      have HAG := hide (appendGroup_ok (B := B) (.slice a0 out.length c0) out OO.out hs2 (by omega) (nth l 0) (nth l 1) (nth l 2) (nth l 3) n q0 q1 q2 q3 (by omega) (by omega))
      have hnn : 1 ≤ n ∧ n ≤ 4 ∧ n ≤ l.length := hn1
      clear hnew HGC hcp0 hW hW2 hsrc bk2 bl2 HO KK hn hnb HDw
      generalize nth l 0 = x0 at *
      generalize nth l 1 = x1 at *
      generalize nth l 2 = x2 at *
      generalize nth l 3 = x3 at *
      go_wp2_with fail
      refine HAG.out.mono ?_
      rintro e w3 ⟨v3, rfl, own3, k3⟩
      have O3 := hide own3
      obtain ⟨a3, c3, rfl⟩ := own_slice own3
      clear own3
      go_wp2
      go_roundw
      case rel =>
        have hL := HLL.out
        have hp85 := HL2.out
        refine ⟨p + n, out ++ part85 x0 x1 x2 x3 n, if cap - p = n then ⟨b, o + p, none⟩ else ⟨b, o + p + n, none⟩, by omega, ?_, ?_, ?_, ?_, by have := O3.out; rw [List.length_append] at this ⊢; exact this, K2.out.trans k3⟩
        · rw [show data.length - (p + n) = l.length - n by omega, show cap - (p + n) = cap - p - n by omega]
          split <;> rfl
        · intro hlt
          rw [if_neg (by omega), Nat.add_assoc]
        · rw [← HDR.out, ← HRR.out, HST.out, List.append_assoc]; exact hide rfl
        · rw [List.length_append]; omega
      case measure => simp [sliceLen]; omega
    · obtain rfl : p = data.length := by omega
      have hfin : enc85 (data.drop data.length) = [126, 62] := by rw [List.drop_length]; rfl
      rw [hfin] at HRR
      rw [Nat.sub_self]
      have hsr := hide (Src.ofString (P := Tryd.prog) wr (tx := 9) Tryd.underlying9 { data := #[126, 62] })
      go_wp2_with (at_builtin; refine wpList_append_own_src rfl (.tmp 19) (.const (.string { data := #[126, 62] })) 22 9 rfl B 5 i0 (.int .u8 0) 1 Tryd.underlying22 hi hz0 hz1 hz2 rfl (.slice a0 out.length c0) out.length _ rfl HO.out (.string { data := #[126, 62] }) 2 (byteVals [126, 62]) rfl (by rw [hz1]; exact hsr.out) (by omega) (by unfold maxLen; omega) (by omega) (by omega) ?_)
      intro v' w2 hr2 hg2
      have k2 := KK.out.grown hg2 (own_row HO.out)
      clear hg2
      go_wp2
      go_ret
      refine ⟨v', rfl, ?_, k2⟩
      rw [← HRR.out, List.map_append, List.length_append]
      exact hr2
end Go.Proofs.YtgkljcmjnphpeaaDoor
