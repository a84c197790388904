/- codes.bySymbol: the codes laid out by their symbols. -/
import Derived.Test.YtgkljcmjnphpeaaGreatDoorK01
import Derived.Test.YtgkljcmjnphpeaaGreatDoorK00
import Derived.Test.YtgkljcmjnphpeaaGreatDoorK29
import Derived.Deep.MidRow
import Derived.Laws.IdiomCopy
import Derived.BigRegion
import Derived.Test.YtgkljcmjnphpeaaGreatDoorProg
import Derived.WalkKit
import Derived.Stop.BytesEq
import Derived.Laws.BitsAllLaws
import Derived.StillTailTactics
set_option linter.unusedVariables false
set_option linter.unusedSimpArgs false
namespace Go.Proofs.YtgkljcmjnphpeaaGreatDoor
theorem nth_set_self (l : List Nat) (i x : Nat) (h : i < l.length) : nth (l.set i x) i = x := by simp [nth, h]
theorem nth_set_ne (l : List Nat) (i j x : Nat) (h : i ≠ j) : nth (l.set i x) j = nth l j := by simp [nth, List.getElem?_set_ne h]
theorem list_ext (a b : List Nat) (hl : a.length = b.length) (h : ∀ i, i < a.length → nth a i = nth b i) : a = b := by
  apply List.ext_getElem hl
  intro i h1 h2
  have := h i h1
  simpa [nth, h1, h2] using this
theorem nth_rep (n i x : Nat) (h : i < n) : nth (List.replicate n x) i = x := by simp [nth, h]
def pre (c : List Nat) (j : Nat) : Nat := (c.take j).sum
/-- Where each length's codes begin, as far as it has been reckoned. -/
def pl (c : List Nat) (m : Nat) : List Nat := (List.range 16).map fun j => if j ≤ m then pre c j else 0
end Go.Proofs.YtgkljcmjnphpeaaGreatDoor
namespace Go.Proofs.YtgkljcmjnphpeaaGreatDoor
open Go.RowKit
variable {w : World}
def zero17 : Obj := .cells (ints (List.replicate 16 0) ++ [Value.slice none 0 0]).toArray 162 (0, 0)
/-- While counts are taken: the result's block, the codes' block. -/
structure Co1 (w : World) (wr : World) (c : List Nat) : Prop where
  below : Below w.heap.size w wr
  size : wr.heap.size = w.heap.size + 2
  res : wr.heap[w.heap.size]? = some zero17
  cod : wr.heap[w.heap.size + 1]? = some (.cells (ints c ++ [Value.slice none 0 0]).toArray 162 (0, 0))
  len : c.length = 16
theorem Co1.cell {wr : World} {c : List Nat} (h : Co1 w wr c) (i : Nat) (hi : i < 16) : wr.cell? ⟨w.heap.size + 1, i, none⟩ = some (.int .i64 (nth c i : Nat)) := by
  rw [cell_blk h.cod]
  have := h.len
  simp [ints, nth, List.getElem?_append_left, this, hi]
theorem Co1.set {wr : World} {c : List Nat} (h : Co1 w wr c) (i x : Nat) (hi : i < 16) : Co1 w (wr.setCell ⟨w.heap.size + 1, i, none⟩ (.int .i64 x)) (c.set i x) := by
  have hlen := h.len
  refine ⟨h.below.setCell (by show w.heap.size ≤ w.heap.size + 1; omega) _, by simp [h.size], ?_, ?_, by simp [h.len]⟩
  · rw [blk_setCell_ne _ (by omega)]; exact h.res
  · rw [blk_setCell _ h.cod]
    have : i < (ints c).length := by simp [ints, hlen, hi]
    simp only [List.setIfInBounds_toArray, List.set_append_left _ _ this]
    simp [ints, List.map_set]
/-- Behind the counts: the codes' block with v for its symbols, and the places' block. -/
structure Co2 (w : World) (wr : World) (c P : List Nat) (v : Value) : Prop where
  below : Below w.heap.size w wr
  size : w.heap.size + 3 ≤ wr.heap.size
  res : wr.heap[w.heap.size]? = some zero17
  cod : wr.heap[w.heap.size + 1]? = some (.cells (ints c ++ [v]).toArray 162 (0, 0))
  plc : wr.heap[w.heap.size + 2]? = some (.cells (ints P).toArray 160 (0, 0))
  len : c.length = 16
  lep : P.length = 16
theorem Co2.cell {wr : World} {c P : List Nat} {v : Value} (h : Co2 w wr c P v) (i : Nat) (hi : i < 16) : wr.cell? ⟨w.heap.size + 1, i, none⟩ = some (.int .i64 (nth c i : Nat)) := by
  rw [cell_blk h.cod]
  have := h.len
  simp [ints, nth, List.getElem?_append_left, this, hi]
theorem Co2.place {wr : World} {c P : List Nat} {v : Value} (h : Co2 w wr c P v) (i : Nat) (hi : i < 16) : wr.cell? ⟨w.heap.size + 2, i, none⟩ = some (.int .i64 (nth P i : Nat)) := by
  rw [cell_blk h.plc]
  have := h.lep
  simp [ints, nth, this, hi]
theorem Co2.drew {wr : World} {c P : List Nat} {v : Value} (h : Co2 w wr c P v) : Co2 w wr.drew c P v := ⟨h.below.drew, h.size, h.res, h.cod, h.plc, h.len, h.lep⟩
theorem Co2.other {wr : World} {c P : List Nat} {v : Value} (h : Co2 w wr c P v) (a : Addr) (u : Value) (ha : w.heap.size + 3 ≤ a.block) : Co2 w (wr.setCell a u) c P v := by
  refine ⟨h.below.setCell (by omega) _, by simp [h.size], ?_, ?_, ?_, h.len, h.lep⟩
  · rw [Below.heap_setCell _ _ _ _ (by omega)]; exact h.res
  · rw [Below.heap_setCell _ _ _ _ (by omega)]; exact h.cod
  · rw [Below.heap_setCell _ _ _ _ (by omega)]; exact h.plc
theorem Co2.grown {wr w1 : World} {c P : List Nat} {v : Value} (h : Co2 w wr c P v) (hg : wr.grownBy w1 none) : Co2 w w1 c P v := by
  have hs := h.size
  refine ⟨h.below.grown hg (by omega) (fun k h => by cases h), by have := hg.size; omega, ?_, ?_, ?_, h.len, h.lep⟩
  · rw [hg.block _ (by omega) (by simp)]; exact h.res
  · rw [hg.block _ (by omega) (by simp)]; exact h.cod
  · rw [hg.block _ (by omega) (by simp)]; exact h.plc
end Go.Proofs.YtgkljcmjnphpeaaGreatDoor
namespace Go.Proofs.YtgkljcmjnphpeaaGreatDoor
open Go.RowKit
variable {w : World}
def zero34 : Obj := .cells ((ints (List.replicate 16 0) ++ [Value.slice none 0 0]) ++ (ints (List.replicate 16 0) ++ [Value.slice none 0 0])).toArray 164 (0, 0)
def partly (l : List Nat) (k : Nat) : List Nat := (List.range l.length).map fun i => if i < k then nth l i else 0
theorem partly_length (l : List Nat) (k : Nat) : (partly l k).length = l.length := by simp [partly]
theorem nth_partly (l : List Nat) (k i : Nat) (h : i < l.length) : nth (partly l k) i = if i < k then nth l i else 0 := by
  simp [partly, nth, h]
theorem partly_zero (l : List Nat) : partly l 0 = List.replicate l.length 0 := by
  refine list_ext _ _ (by simp [partly]) ?_
  intro i hi
  rw [partly_length] at hi
  rw [nth_partly _ _ _ hi, if_neg (by omega), nth_rep _ _ _ hi]
theorem partly_step (l : List Nat) (k : Nat) (h : k < l.length) : partly l (k + 1) = (partly l k).set k (nth l k) := by
  refine list_ext _ _ (by simp [partly]) ?_
  intro i hi
  rw [partly_length] at hi
  rw [nth_partly _ _ _ hi]
  by_cases c : k = i
  · subst c; rw [nth_set_self _ _ _ (by rw [partly_length]; exact h), if_pos (by omega)]
  · rw [nth_set_ne _ _ _ _ c, nth_partly _ _ _ hi]
    by_cases c2 : i < k
    · rw [if_pos c2, if_pos (by omega)]
    · rw [if_neg c2, if_neg (by omega)]
/-- While lengths are written into a row g: the result's block, the row. -/
structure Lw (w wr : World) (g : Nat) (l : List Nat) : Prop where
  below : Below w.heap.size w wr
  res : wr.heap[w.heap.size]? = some zero34
  row : wr.heap[g]? = some (.cells (ints l).toArray 3 (0, 0))
theorem Lw.cell {wr : World} {g : Nat} {l : List Nat} (h : Lw w wr g l) (i : Nat) (hi : i < l.length) : wr.cell? ⟨g, i, none⟩ = some (.int .i64 (nth l i : Nat)) := by
  rw [cell_blk h.row, List.getElem?_toArray]; exact ints_get _ _ hi
theorem Lw.set {wr : World} {g : Nat} {l : List Nat} (h : Lw w wr g l) (hg : w.heap.size < g) (i x : Nat) : Lw w (wr.setCell ⟨g, i, none⟩ (.int .i64 x)) g (l.set i x) := by
  refine ⟨h.below.setCell (by show w.heap.size ≤ g; omega) _, ?_, ?_⟩
  · rw [blk_setCell_ne _ (by omega)]; exact h.res
  · rw [blk_setCell _ h.row]; simp [ints, List.map_set]
def fixedCells (g1 g2 : Nat) : List Value := ints Fo.csF ++ (Value.slice (some ⟨g1, 0, none⟩) Fo.ssF.length Fo.ssF.length :: (ints Fo.cdF ++ [Value.slice (some ⟨g2, 0, none⟩) Fo.sdF.length Fo.sdF.length]))
end Go.Proofs.YtgkljcmjnphpeaaGreatDoor
namespace Go.Proofs.YtgkljcmjnphpeaaGreatDoor
open Go.RowKit
theorem size_byte (W : World) : (sizeOf 5).run Tryz.prog W = .ok 1 W := by kernel_rfl
end Go.Proofs.YtgkljcmjnphpeaaGreatDoor
namespace Go.Proofs.YtgkljcmjnphpeaaGreatDoor
open Go.RowKit
variable {B br bf bd off cap : Nat} {d : List Nat} {most : Nat} {fixed : List Value} {w : World} {p held left window : Nat} {ov : Value} {out : List Nat}
/-- Bytes as they are, in a block's bits. -/
structure StoredAt (most : Nat) (r : List Bool) (out D : List Nat) (r' : List Bool) : Prop where
  h0 : 0 < D.length
  h1 : D.length ≤ 65535
  h2 : ∀ i, i < D.length → nth D i < 256
  h3 : r.drop (r.length % 8) = Fo.numBits 16 D.length ++ (Fo.numBits 16 (65535 - D.length) ++ (Fo.bitsOf D ++ r'))
  h4 : r'.length % 8 = 0
  h5 : out.length + D.length ≤ most
/-- Blocks up to the last one, as a packer makes them. -/
def Blocks (window most : Nat) (r : List Bool) (out : List Nat) (r' : List Bool) (out' : List Nat) : Prop :=
  ∀ P : List Bool → List Nat → List Bool → List Nat → Prop,
    (∀ r r' out out', Fo.PartsTo Fo.fixedC window most r out (.ok (r', out')) → P (true :: (Fo.numBits 2 1 ++ r)) out r' out') →
    (∀ r r' out D, StoredAt most r out D r' → P (true :: (Fo.numBits 2 0 ++ r)) out r' (out ++ D)) →
    (∀ r r' r'' out out'' D, StoredAt most r out D r' → P r' (out ++ D) r'' out'' → P (false :: (Fo.numBits 2 0 ++ r)) out r'' out'') → P r out r' out'
section
variable {window most : Nat} {r r' r'' : List Bool} {out out' out'' : List Nat}
end
theorem Fix.kept {w' : World} (h : Fix w br bf fixed) (k : Kept 5 B [br, bf] w w') : Fix w' br bf fixed := by
  obtain ⟨g1, c1, g2, c2, he, i1, i2, n1, n2, n3, n4⟩ := h.ex
  exact ⟨g1, c1, g2, c2, he, i1.kept k (by simp [n1, n2]), i2.kept k (by simp [n3, n4]), n1, n2, n3, n4⟩
theorem Rd.ofBelow {w1 : World} (h : Rd B br bd off cap d most w p ov out) (b : Below w.heap.size w w1) : Rd B br bd off cap d most w1 p ov out := by
  have hsz := h.sz
  have hB := h.hB
  refine ⟨h.hB, h.hb, ?_, ?_, ?_, h.byt, h.cp, h.lc, h.lm, h.lo, h.lp⟩
  · rw [b.block _ (lt_of_block h.blk)]; exact h.blk
  · intro i hi; rw [b.cell (p := ⟨bd, off + i, none⟩) (by show bd < _; omega)]; exact h.dat i hi
  · obtain ⟨h1, h2⟩ := h.own
    refine ⟨h1, ?_⟩
    rcases h2 with h2 | ⟨g, c, cur, e1, e2, hh, hc⟩
    · exact Or.inl h2
    · exact Or.inr ⟨g, c, cur, e1, e2, by rw [b.block _ (lt_of_block hh)]; exact hh, hc⟩
theorem Bi.start {w1 : World} {F : List Value} (h : Rd B br bd off cap d most w1 0 ov []) :
    Bi B br w1.heap.size bd off cap d most F (w1.alloc (.cells (Value.pointer (some ⟨br, 0, none⟩) :: .int .u8 0 :: .int .i64 0 :: .int .i64 0 :: F).toArray 167 (0, 0))) 0 0 0 0 ov [] :=
  ⟨h.alloc _, by have := h.sz; omega, blk_new _ _, by omega, by omega⟩
theorem Fix.start {w1 : World} {g1 g2 : Nat} (i1 : IntRow w1 g1 Fo.ssF) (i2 : IntRow w1 g2 Fo.sdF) (o : Obj) (n1 : g1 ≠ br) (n2 : g2 ≠ br) : Fix (w1.alloc o) br w1.heap.size (fixedCells g1 g2) := by
  obtain ⟨c1, z1, h1, e1⟩ := i1
  obtain ⟨c2, z2, h2, e2⟩ := i2
  exact ⟨g1, _, g2, _, rfl, ⟨c1, z1, blk_alloc _ h1, e1⟩, ⟨c2, z2, blk_alloc _ h2, e2⟩, n1, by have := lt_of_block h1; omega, n2, by have := lt_of_block h2; omega⟩
end Go.Proofs.YtgkljcmjnphpeaaGreatDoor
namespace Go.Proofs.YtgkljcmjnphpeaaGreatDoor
open Go.RowKit
variable {w : World}
/-- What digits mean, counted by 85. -/
def a85V : List Nat → Nat → Nat
  | [], n => n
  | d :: ds, n => a85V ds (n * 85 + (d - 33))
def a85Out (V : Nat) : List Nat := [V / 16777216, V / 65536 % 256, V / 256 % 256, V % 256]
theorem within_u64_yes (n a b : Int) (w : World) (h1 : a ≤ n) (h2 : n ≤ b) : Calls Tryz.prog 277 #[.int .u64 n, .int .u64 a, .int .u64 b] w fun e w' => e = .returned (.bool true) ∧ w' = w := by
  go_enter Tryz.func277, Tryz.ntmps277
  go_wp2
  go_ret
  exact ⟨rfl, rfl⟩
theorem run_index5_0 (a0 a1 a2 a3 a4 : Nat) (W : World) : (Instr.index 184 (.agg #[.int .u8 (a0 : Nat), .int .u8 (a1 : Nat), .int .u8 (a2 : Nat), .int .u8 (a3 : Nat), .int .u8 (a4 : Nat)]) (.int .i64 0)).run Tryz.prog W = .ok (.int .u8 (a0 : Nat)) W := by kernel_rfl
theorem run_index5_1 (a0 a1 a2 a3 a4 : Nat) (W : World) : (Instr.index 184 (.agg #[.int .u8 (a0 : Nat), .int .u8 (a1 : Nat), .int .u8 (a2 : Nat), .int .u8 (a3 : Nat), .int .u8 (a4 : Nat)]) (.int .i64 1)).run Tryz.prog W = .ok (.int .u8 (a1 : Nat)) W := by kernel_rfl
theorem run_index5_2 (a0 a1 a2 a3 a4 : Nat) (W : World) : (Instr.index 184 (.agg #[.int .u8 (a0 : Nat), .int .u8 (a1 : Nat), .int .u8 (a2 : Nat), .int .u8 (a3 : Nat), .int .u8 (a4 : Nat)]) (.int .i64 2)).run Tryz.prog W = .ok (.int .u8 (a2 : Nat)) W := by kernel_rfl
theorem run_index5_3 (a0 a1 a2 a3 a4 : Nat) (W : World) : (Instr.index 184 (.agg #[.int .u8 (a0 : Nat), .int .u8 (a1 : Nat), .int .u8 (a2 : Nat), .int .u8 (a3 : Nat), .int .u8 (a4 : Nat)]) (.int .i64 3)).run Tryz.prog W = .ok (.int .u8 (a3 : Nat)) W := by kernel_rfl
theorem run_index5_4 (a0 a1 a2 a3 a4 : Nat) (W : World) : (Instr.index 184 (.agg #[.int .u8 (a0 : Nat), .int .u8 (a1 : Nat), .int .u8 (a2 : Nat), .int .u8 (a3 : Nat), .int .u8 (a4 : Nat)]) (.int .i64 4)).run Tryz.prog W = .ok (.int .u8 (a4 : Nat)) W := by kernel_rfl
/-- Counted so far. -/
def pv (P1 P2 P3 P4 V : Nat) : Nat → Nat
  | 0 => 0
  | 1 => P1
  | 2 => P2
  | 3 => P3
  | 4 => P4
  | _ => V
set_option maxRecDepth 100000 in
set_option maxHeartbeats 1000000 in
theorem a85Bytes_ok (g0 g1 g2 g3 g4 : Nat) (h0 : 33 ≤ g0 ∧ g0 ≤ 117) (h1 : 33 ≤ g1 ∧ g1 ≤ 117) (h2 : 33 ≤ g2 ∧ g2 ≤ 117) (h3 : 33 ≤ g3 ∧ g3 ≤ 117) (h4 : 33 ≤ g4 ∧ g4 ≤ 117) (V : Nat) (hV : a85V [g0, g1, g2, g3, g4] 0 = V) (hm : V ≤ 4294967295) (w : World) :
    Calls Tryz.prog 217 #[.agg #[.int .u8 g0, .int .u8 g1, .int .u8 g2, .int .u8 g3, .int .u8 g4]] w fun e w' => e = .returned (.agg ((a85Out V).map fun x : Nat => Value.int .u8 (x : Int)).toArray) ∧ Below w.heap.size w w' := by
  obtain ⟨P1, e1⟩ : ∃ P1, P1 = g0 - 33 := ⟨_, rfl⟩
  obtain ⟨P2, e2⟩ : ∃ P2, P2 = P1 * 85 + (g1 - 33) := ⟨_, rfl⟩
  obtain ⟨P3, e3⟩ : ∃ P3, P3 = P2 * 85 + (g2 - 33) := ⟨_, rfl⟩
  obtain ⟨P4, e4⟩ : ∃ P4, P4 = P3 * 85 + (g3 - 33) := ⟨_, rfl⟩
  have e5 : V = P4 * 85 + (g4 - 33) := by
    rw [e4, e3, e2, e1, ← hV]
    show ((((0 * 85 + (g0 - 33)) * 85 + (g1 - 33)) * 85 + (g2 - 33)) * 85 + (g3 - 33)) * 85 + (g4 - 33) = _
    rw [Nat.zero_mul, Nat.zero_add]
  have b1 : P1 ≤ 84 := by omega
  have b2 : P2 ≤ 7224 := by omega
  have b3 : P3 ≤ 614124 := by omega
  have b4 : P4 ≤ 52200624 := by omega
  have E := hide (And.intro e1 (And.intro e2 (And.intro e3 (And.intro e4 e5))))
  clear hV e1 e2 e3 e4 e5
  go_enter Tryz.func217, Tryz.ntmps217
  go_wp2
  generalize hW : World.alloc (World.alloc w _) _ = W
  have hbW : Below w.heap.size w W := by rw [← hW]; exact (((Below.refl _ _).alloc (Nat.le_refl _) _).alloc (by simp) _)
  have hblk : W.heap[w.heap.size + 1]? = some (.cells #[.int .u8 0, .int .u8 0, .int .u8 0, .int .u8 0] 153 (0, 0)) := by
    rw [← hW]
    have := blk_new (w.alloc (.cells #[.int .u8 g0, .int .u8 g1, .int .u8 g2, .int .u8 g3, .int .u8 g4] 184)) (.cells #[.int .u8 0, .int .u8 0, .int .u8 0, .int .u8 0] 153 (0, 0))
    simpa using this
  have HBW := hide hbW
  have HBK := hide hblk
  clear hW hbW hblk
  go_loopw [3, 7] (fun n i wr => ∃ k : Nat, k ≤ 5 ∧ i = .int .i64 k ∧ n = .int .u64 (pv P1 P2 P3 P4 V k : Nat) ∧ wr = W) (fun _ i _ => 5 - (intOf i).toNat)
  case atStart => exact ⟨0, by omega, rfl, rfl, rfl⟩
  case round =>
    obtain ⟨k, hk, rfl, rfl, rfl⟩ := hrel
    obtain rfl | rfl | rfl | rfl | rfl | rfl : k = 0 ∨ k = 1 ∨ k = 2 ∨ k = 3 ∨ k = 4 ∨ k = 5 := by omega
    · have hix := run_index5_0 g0 g1 g2 g3 g4
      simp only [pv]
      go_wp2
      go_roundw
      case rel =>
        refine ⟨1, by omega, rfl, ?_, trivial⟩
        show Value.int .u64 _ = Value.int .u64 (P1 : Nat)
        congr 1
        have := E.out
        omega
      case measure => simp [intOf]
    · have hix := run_index5_1 g0 g1 g2 g3 g4
      simp only [pv]
      go_wp2
      go_roundw
      case rel =>
        refine ⟨2, by omega, rfl, ?_, trivial⟩
        show Value.int .u64 _ = Value.int .u64 (P2 : Nat)
        congr 1
        have := E.out
        omega
      case measure => simp [intOf]
    · have hix := run_index5_2 g0 g1 g2 g3 g4
      simp only [pv]
      go_wp2
      go_roundw
      case rel =>
        refine ⟨3, by omega, rfl, ?_, trivial⟩
        show Value.int .u64 _ = Value.int .u64 (P3 : Nat)
        congr 1
        have := E.out
        omega
      case measure => simp [intOf]
    · have hix := run_index5_3 g0 g1 g2 g3 g4
      simp only [pv]
      go_wp2
      go_roundw
      case rel =>
        refine ⟨4, by omega, rfl, ?_, trivial⟩
        show Value.int .u64 _ = Value.int .u64 (P4 : Nat)
        congr 1
        have := E.out
        omega
      case measure => simp [intOf]
    · have hix := run_index5_4 g0 g1 g2 g3 g4
      simp only [pv]
      go_wp2
      go_roundw
      case rel =>
        refine ⟨5, by omega, rfl, ?_, trivial⟩
        show Value.int .u64 _ = Value.int .u64 (V : Nat)
        congr 1
        have := E.out
        omega
      case measure => simp [intOf]
    · simp only [pv]
      have n0 : wr.cell? ⟨w.heap.size + 1, 0, none⟩ = some (.int .u8 0) := by rw [cell_blk HBK.out]; rfl
      have n1 : wr.cell? ⟨w.heap.size + 1, 1, none⟩ = some (.int .u8 0) := by rw [cell_blk HBK.out]; rfl
      have n2 : wr.cell? ⟨w.heap.size + 1, 2, none⟩ = some (.int .u8 0) := by rw [cell_blk HBK.out]; rfl
      have n3 : wr.cell? ⟨w.heap.size + 1, 3, none⟩ = some (.int .u8 0) := by rw [cell_blk HBK.out]; rfl
      have f0 : wr.frozen? ⟨w.heap.size + 1, 0, none⟩ = false := free_blk HBK.out
      have f1 : wr.frozen? ⟨w.heap.size + 1, 1, none⟩ = false := free_blk HBK.out
      have f2 : wr.frozen? ⟨w.heap.size + 1, 2, none⟩ = false := free_blk HBK.out
      have f3 : wr.frozen? ⟨w.heap.size + 1, 3, none⟩ = false := free_blk HBK.out
      have hfin : Hid (((((wr.setCell ⟨w.heap.size + 1, 0, none⟩ (.int .u8 (V / 16777216 : Nat))).setCell ⟨w.heap.size + 1, 1, none⟩ (.int .u8 (V / 65536 % 256 : Nat))).setCell ⟨w.heap.size + 1, 2, none⟩ (.int .u8 (V / 256 % 256 : Nat))).setCell ⟨w.heap.size + 1, 3, none⟩ (.int .u8 (V % 256 : Nat))).heap[w.heap.size + 1]? = some (.cells ((a85Out V).map fun x : Nat => Value.int .u8 (x : Int)).toArray 153 (0, 0))) := by
        unfold Hid
        exact blk_setCell _ (blk_setCell _ (blk_setCell _ (blk_setCell _ HBK.out)))
      have hbel : Hid (Below w.heap.size w ((((wr.setCell ⟨w.heap.size + 1, 0, none⟩ (.int .u8 (V / 16777216 : Nat))).setCell ⟨w.heap.size + 1, 1, none⟩ (.int .u8 (V / 65536 % 256 : Nat))).setCell ⟨w.heap.size + 1, 2, none⟩ (.int .u8 (V / 256 % 256 : Nat))).setCell ⟨w.heap.size + 1, 3, none⟩ (.int .u8 (V % 256 : Nat)))) :=
        hide ((((HBW.out.setCell (p := ⟨w.heap.size + 1, 0, none⟩) (by simp) _).setCell (p := ⟨w.heap.size + 1, 1, none⟩) (by simp) _).setCell (p := ⟨w.heap.size + 1, 2, none⟩) (by simp) _).setCell (p := ⟨w.heap.size + 1, 3, none⟩) (by simp) _)
      have x0 : Hid ((V : Int) / 16777216 = (V / 16777216 : Nat)) := hide rfl
      go_wp2_with (first | (go_at_call 277; refine (within_u64_yes _ _ _ _ (by omega) (by omega)).mono ?_; rintro e w' ⟨rfl, rfl⟩) | (go_at_call 163; refine (must_yes _).mono ?_; rintro e w' ⟨rfl, rfl⟩))
      refine bodyPost_ret (v := .agg ((a85Out V).map fun x : Nat => Value.int .u8 (x : Int)).toArray) ?_ rfl ⟨rfl, hbel.out⟩
      exact results_cell_row Tryz.results217 _ _ (w.heap.size + 1) 153 _ _ _ rfl hfin.out Tryz.underlying153 rfl (by kernel_rfl)
end Go.Proofs.YtgkljcmjnphpeaaGreatDoor
/- putShort: what the last digits mean. -/
namespace Go.Proofs.YtgkljcmjnphpeaaGreatDoor
open Go.RowKit
variable {B br bd off cap : Nat} {d : List Nat} {most : Nat} {w : World} {p : Nat} {ov : Value} {out : List Nat}
def byteVals (l : List Nat) : List Value := l.map fun x : Nat => Value.int .u8 (x : Int)
/-- Digits from a place on filled up by the last one. -/
def fill5 (ds : List Nat) : Nat → Nat → List Nat
  | 0, _ => ds
  | f + 1, k => fill5 (ds.set k 117) f (k + 1)
theorem fill5_eq (g0 g1 g2 g3 g4 n : Nat) (hn : 2 ≤ n) (hn2 : n ≤ 4) : fill5 [g0, g1, g2, g3, g4] (5 - n) n = [g0, g1, if n ≤ 2 then 117 else g2, if n ≤ 3 then 117 else g3, 117] := by
  obtain rfl | rfl | rfl : n = 2 ∨ n = 3 ∨ n = 4 := by omega
  · rfl
  · rfl
  · rfl
theorem byteVals_set (l : List Nat) (k x : Nat) : ((byteVals l).toArray.setIfInBounds k (.int .u8 (x : Int))) = (byteVals (l.set k x)).toArray := by
  unfold byteVals
  rw [List.map_set]; simp
theorem run_slice43_1 (b : Nat) (W : World) : (Instr.sliceAt 153 (.pointer (some ⟨b, 0, none⟩)) none (some (.int .i64 1)) none).run Tryz.prog W = .ok (.slice (some ⟨b, 0, none⟩) 1 4) W := by kernel_rfl
theorem run_slice43_2 (b : Nat) (W : World) : (Instr.sliceAt 153 (.pointer (some ⟨b, 0, none⟩)) none (some (.int .i64 2)) none).run Tryz.prog W = .ok (.slice (some ⟨b, 0, none⟩) 2 4) W := by kernel_rfl
theorem run_slice43_3 (b : Nat) (W : World) : (Instr.sliceAt 153 (.pointer (some ⟨b, 0, none⟩)) none (some (.int .i64 3)) none).run Tryz.prog W = .ok (.slice (some ⟨b, 0, none⟩) 3 4) W := by kernel_rfl
theorem run_slice43 (b n : Nat) (hn : 2 ≤ n) (hn2 : n ≤ 4) (W : World) : (Instr.sliceAt 153 (.pointer (some ⟨b, 0, none⟩)) none (some (.int .i64 ((n : Int) - 1))) none).run Tryz.prog W = .ok (.slice (some ⟨b, 0, none⟩) (n - 1) 4) W := by
  obtain rfl | rfl | rfl : n = 2 ∨ n = 3 ∨ n = 4 := by omega
  · exact run_slice43_1 b W
  · exact run_slice43_2 b W
  · exact run_slice43_3 b W
set_option maxRecDepth 100000 in
set_option maxHeartbeats 1000000 in
theorem putShort_ok (h : Rd B br bd off cap d most w p ov out) (g0 g1 g2 g3 g4 n : Nat) (hn : 2 ≤ n) (hn2 : n ≤ 4) (h0 : 33 ≤ g0 ∧ g0 ≤ 117) (h1 : 33 ≤ g1 ∧ g1 ≤ 117) (h2 : 33 ≤ (if n ≤ 2 then 117 else g2) ∧ (if n ≤ 2 then 117 else g2) ≤ 117) (h3 : 33 ≤ (if n ≤ 3 then 117 else g3) ∧ (if n ≤ 3 then 117 else g3) ≤ 117)
    (V : Nat) (hV : a85V [g0, g1, if n ≤ 2 then 117 else g2, if n ≤ 3 then 117 else g3, 117] 0 = V) (hm : V ≤ 4294967295) (ho : out.length + (n - 1) ≤ most) :
    Calls Tryz.prog 215 #[.pointer (some ⟨br, 0, none⟩), .agg (byteVals [g0, g1, g2, g3, g4]).toArray, .int .i64 n] w fun e w' => e = .returned (.tuple #[]) ∧ ∃ ov', Rd B br bd off cap d most w' p ov' (out ++ (a85Out V).take (n - 1)) ∧ Kept 5 B [br] w w' := by
  have HF := hide (fill5_eq g0 g1 g2 g3 g4 n hn hn2)
  have HB : Hid (∀ W : World, Calls Tryz.prog 217 #[.agg (byteVals [g0, g1, if n ≤ 2 then 117 else g2, if n ≤ 3 then 117 else g3, 117]).toArray] W fun e w' => e = .returned (.agg #[.int .u8 (V / 16777216 : Nat), .int .u8 (V / 65536 % 256 : Nat), .int .u8 (V / 256 % 256 : Nat), .int .u8 (V % 256 : Nat)]) ∧ Below W.heap.size W w') := fun W => a85Bytes_ok g0 g1 _ _ 117 h0 h1 h2 h3 (by omega) V hV hm W
  clear h0 h1 h2 h3 hV
  generalize hR : [g0, g1, if n ≤ 2 then 117 else g2, if n ≤ 3 then 117 else g3, 117] = R at *
  have hR5 : R.length = 5 := by rw [← hR]; rfl
  have HR := hide hR
  have hbox : (w.alloc (.cells (byteVals [g0, g1, g2, g3, g4]).toArray 184)).heap[w.heap.size]? = some (.cells (byteVals [g0, g1, g2, g3, g4]).toArray 184 (0, 0)) := blk_new _ _
  have h5 : [g0, g1, g2, g3, g4].length = 5 := rfl
  generalize [g0, g1, g2, g3, g4] = D at *
  clear hR
  have hne0 : ((n : Int) == 0) = false := by simp; omega
  have hn1 : (1 : Int) < n := by omega
  go_enter Tryz.func215, Tryz.ntmps215
  go_wp2_with (go_at_call 163; refine (must_yes _).mono ?_; rintro e w' ⟨rfl, rfl⟩)
  go_loopw [6] (fun i wr => ∃ (k : Nat) (E : List Nat), n ≤ k ∧ k ≤ 5 ∧ i = .int .i64 k ∧ E.length = 5 ∧ Hid (fill5 E (5 - k) k = R) ∧ wr.heap[w.heap.size]? = some (.cells (byteVals E).toArray 184 (0, 0)) ∧ Below w.heap.size w wr) (fun i _ => 5 - (intOf i).toNat)
  case atStart => exact ⟨n, D, Nat.le_refl _, by omega, rfl, h5, HF, hbox, (Below.refl _ _).alloc (Nat.le_refl _) _⟩
  clear hbox HF
  case round =>
    obtain ⟨k, E, k1, k2, rfl, hE, HK, hb, bl⟩ := hrel
    by_cases hk : k < 5
    · obtain ⟨x, hx⟩ : ∃ x, wr.cell? ⟨w.heap.size, k, none⟩ = some x := by
        rw [cell_blk hb]
        exact ⟨_, Array.getElem?_eq_getElem (by simp [byteVals, hE]; omega)⟩
      have fx : wr.frozen? ⟨w.heap.size, k, none⟩ = false := free_blk hb
      have hk' : (k : Int) < 5 := by omega
      have HB2 : Hid ((wr.setCell ⟨w.heap.size, k, none⟩ (.int .u8 117)).heap[w.heap.size]? = some (.cells (byteVals (E.set k 117)).toArray 184 (0, 0))) := by
        unfold Hid
        rw [blk_setCell _ hb]
        exact congrArg (fun C => some (Obj.cells C 184 (0, 0))) (byteVals_set E k 117)
      have HBL := hide bl
      clear hb bl
      go_wp2
      go_roundw
      case rel =>
        refine ⟨k + 1, E.set k 117, by omega, by omega, by go_num, by rw [List.length_set]; exact hE, ?_, HB2.out, HBL.out.setCell (Nat.le_refl _) _⟩
        have := HK.out
        rw [show 5 - k = (5 - (k + 1)) + 1 by omega, fill5] at this
        exact this
      case measure => simp [intOf]; omega
    · obtain rfl : k = 5 := by omega
      obtain rfl : E = R := HK.out
      have hcs : Hid (wr.rangeAt w.heap.size 0 (byteVals E)) := by
        intro j v hj
        rw [cell_blk hb, Nat.zero_add]
        simpa using hj
      have hi5 : Hid ((Tryz.prog.info? 184).map (·.size) = some (byteVals E).length) := by
        unfold Hid byteVals; rw [List.length_map, hE]; kernel_rfl
      have HBL := hide bl
      have hsz := bl.size
      clear hb bl HK
      go_wp2_with (refine wpList_load_mid rfl 184 (.tmp 4) rfl w.heap.size 0 rfl _ _ hcs.out Tryz.underlying184 rfl hi5.out ?_)
      refine (HB.out _).mono ?_
      rintro e w1 ⟨rfl, b1⟩
      have HR1 := hide ((h.ofBelow (HBL.out.trans (b1.mono hsz))))
      have K1 := hide (HBL.out.trans (b1.mono hsz))
      clear h HBL b1 HB hcs hi5
      have hsl := run_slice43 w1.heap.size n hn hn2
      have htl : ((a85Out V).take (n - 1)).length = n - 1 := by rw [List.length_take]; show min (n - 1) 4 = _; omega
      have HP := hide (put_ok (HR1.out.alloc (.cells #[.int .u8 (V / 16777216 : Nat), .int .u8 (V / 65536 % 256 : Nat), .int .u8 (V / 256 % 256 : Nat), .int .u8 (V % 256 : Nat)] 153)) ((a85Out V).take (n - 1)) ⟨w1.heap.size, 0, none⟩ 4 (by rw [htl]; exact ho) (by have := HR1.out.sz; simp; omega) (by
        intro i hi
        rw [htl] at hi
        rw [addr_add, cell_blk (blk_new _ _)]
        have e : nth ((a85Out V).take (n - 1)) i = nth (a85Out V) i := by simp [nth, List.getElem?_take, hi]
        rw [e]
        have h4 : i < 4 := by omega
        match i, h4 with
        | 0, _ => rfl
        | 1, _ => rfl
        | 2, _ => rfl
        | 3, _ => rfl))
      rw [htl] at HP
      go_wp2_with fail
      refine HP.out.mono ?_
      rintro e w2 ⟨rfl, ov', r2, k2⟩
      go_wp2
      go_end0
      exact ⟨rfl, ov', r2, ((Kept.refl _ _ _ _).trans ⟨K1.out.os, K1.out.tape, K1.out.output, K1.out.size, fun i o _ ho _ => by rw [K1.out.block i (lt_of_block ho)]; exact ho⟩ |>.alloc _).trans k2⟩
end Go.Proofs.YtgkljcmjnphpeaaGreatDoor
namespace Go.Proofs.YtgkljcmjnphpeaaGreatDoor
open Go.RowKit
variable {B br bd off cap : Nat} {d : List Nat} {most : Nat} {w : World} {p : Nat} {ov : Value} {out : List Nat}
theorem Kept.setNew {e B : Nat} {S : List Nat} {a w : World} (h : Kept e B S a w) {q : Addr} (hp : a.heap.size ≤ q.block) (u : Value) : Kept e B S a (w.setCell q u) :=
  ⟨h.os, h.tape, h.output, by have := h.size; simpa [World.setCell] using this, fun k o hk ho hc => by
    have := lt_of_block ho
    rw [Below.heap_setCell _ _ _ _ (by omega)]; exact h.block k o hk ho hc⟩
theorem Rd.other {b t i : Nat} {C : Array Value} {fz : Nat × Nat} (h : Rd B br bd off cap d most w p ov out) (hb : w.heap[b]? = some (.cells C t fz)) (ht : t ≠ 5) (h1 : b ≠ br) (h2 : b ≠ bd) (v : Value) : Rd B br bd off cap d most (w.setCell ⟨b, i, none⟩ v) p ov out :=
  ⟨h.hB, h.hb, by rw [blk_setCell_ne _ (fun e => h1 e.symm)]; exact h.blk, fun j hj => by rw [cell_ne _ h2]; exact h.dat j hj, ownsRow_setCell_other h.own (own_ne h.own hb ht) _, h.byt, h.cp, h.lc, h.lm, h.lo, h.lp⟩
theorem range_of_blk {W : World} {b T : Nat} {l : List Nat} {fz : Nat × Nat} (h : W.heap[b]? = some (.cells (byteVals l).toArray T fz)) : Hid (W.rangeAt b 0 (byteVals l)) := by
  intro j v hj
  rw [cell_blk h, Nat.zero_add]
  simpa using hj
theorem dig_white (g : Nat) (h1 : 33 ≤ g) (h2 : g ≤ 126) : whiteB g = false := by
  unfold whiteB; simp; omega
def shortV (g0 g1 g2 g3 n : Nat) : Nat := a85V [g0, g1, if n ≤ 2 then 117 else g2, if n ≤ 3 then 117 else g3, 117] 0
theorem putShort_part (h : Rd B br bd off cap d most w p ov out) (G : List Nat) (hG : G.length = 5) (n : Nat) (hn : 2 ≤ n) (hn2 : n ≤ 4) (hg : ∀ i, i < n → 33 ≤ nth G i ∧ nth G i ≤ 117) (V : Nat) (hV : shortV (nth G 0) (nth G 1) (nth G 2) (nth G 3) n = V) (hm : V ≤ 4294967295) (ho : out.length + (n - 1) ≤ most) :
    Calls Tryz.prog 215 #[.pointer (some ⟨br, 0, none⟩), .agg (byteVals (partly G n)).toArray, .int .i64 n] w fun e w' => e = .returned (.tuple #[]) ∧ ∃ ov', Rd B br bd off cap d most w' p ov' (out ++ (a85Out V).take (n - 1)) ∧ Kept 5 B [br] w w' := by
  match G, hG with
  | [g0, g1, g2, g3, g4], _ =>
    have k0 := hg 0 (by omega)
    have k1 := hg 1 (by omega)
    obtain rfl | rfl | rfl : n = 2 ∨ n = 3 ∨ n = 4 := by omega
    · exact putShort_ok h g0 g1 0 0 0 2 (by omega) (by omega) k0 k1 (by simp) (by simp) V hV hm ho
    · have k2 := hg 2 (by omega)
      exact putShort_ok h g0 g1 g2 0 0 3 (by omega) (by omega) k0 k1 k2 (by simp) V hV hm ho
    · have k2 := hg 2 (by omega)
      have k3 := hg 3 (by omega)
      exact putShort_ok h g0 g1 g2 g3 0 4 (by omega) (by omega) k0 k1 k2 k3 V hV hm ho
set_option maxRecDepth 100000 in
set_option maxHeartbeats 2000000 in
theorem a85Group_short (h : Rd B br bd off cap d most w p ov out) (G : List Nat) (hG : G.length = 5) (n : Nat) (hn : 2 ≤ n) (hn2 : n ≤ 4) (hp : p + n + 1 < d.length) (hd : ∀ i, i < n → nth d (p + i) = nth G i) (hg : ∀ i, i < n → 33 ≤ nth G i ∧ nth G i ≤ 117)
    (he1 : nth d (p + n) = 126) (he2 : nth d (p + n + 1) = 62) (V : Nat) (hV : shortV (nth G 0) (nth G 1) (nth G 2) (nth G 3) n = V) (hm : V ≤ 4294967295) (ho : out.length + (n - 1) ≤ most) :
    Calls Tryz.prog 157 #[.pointer (some ⟨br, 0, none⟩)] w fun e w' => e = .returned (.bool false) ∧ ∃ ov', Rd B br bd off cap d most w' (p + n + 2) ov' (out ++ (a85Out V).take (n - 1)) ∧ Kept 5 B [br] w w' := by
  have HD := hide hd
  have HG := hide hg
  have HE1 := hide he1
  have HE2 := hide he2
  have HPS : Hid (∀ (W : World) (q : Nat), Rd B br bd off cap d most W q ov out → Calls Tryz.prog 215 #[.pointer (some ⟨br, 0, none⟩), .agg (byteVals (partly G n)).toArray, .int .i64 n] W fun e w' => e = .returned (.tuple #[]) ∧ ∃ ov', Rd B br bd off cap d most w' q ov' (out ++ (a85Out V).take (n - 1)) ∧ Kept 5 B [br] W w') := fun W q hq => putShort_part hq G hG n hn hn2 hg V hV hm ho
  have hbr := lt_of_block h.blk
  have hlen := h.cp
  have hlc := h.lc
  have hb0 : (w.alloc (.cells (byteVals (partly G 0)).toArray 184 (0, 0))).heap[w.heap.size]? = some (.cells (byteVals (partly G 0)).toArray 184 (0, 0)) := blk_new _ _
  have e0 : (byteVals (partly G 0)).toArray = #[.int .u8 0, .int .u8 0, .int .u8 0, .int .u8 0, .int .u8 0] := by
    rw [partly_zero, hG]; rfl
  rw [e0] at hb0
  have HB0 := hide hb0
  have E0 := hide e0
  have HR0 := hide (h.alloc (.cells #[.int .u8 0, .int .u8 0, .int .u8 0, .int .u8 0, .int .u8 0] 184 (0, 0)))
  clear hd hg he1 he2 hV hm hb0 e0 h
  go_enter Tryz.func157, Tryz.ntmps157
  go_wp2
  go_loopw [7] (fun i wr => ∃ k : Nat, k ≤ n ∧ i = .int .i64 k ∧ wr.heap[w.heap.size]? = some (.cells (byteVals (partly G k)).toArray 184 (0, 0)) ∧ Rd B br bd off cap d most wr (p + k) ov out ∧ Kept 5 B [br] w wr) (fun i _ => 5 - (intOf i).toNat)
  case atStart => exact ⟨0, by omega, rfl, by rw [E0.out]; exact HB0.out, HR0.out, (Kept.refl _ _ _ _).alloc _⟩
  clear HB0 E0 HR0
  case round =>
    obtain ⟨k, hk, rfl, hb, hr, kk⟩ := hrel
    have lit0 : (({ data := #[126, 62] } : ByteArray)[0]'(by decide)).toNat = 126 := rfl
    have lit1 : (({ data := #[126, 62] } : ByteArray)[1]'(by decide)).toNat = 62 := rfl
    have hbB := hr.hB
    have hBb := hr.hb
    by_cases hkn : k < n
    · have hg := HG.out k hkn
      have HN := hide (nextInk_ok hr (by omega) (by rw [HD.out k hkn]; exact dig_white _ (by omega) (by omega)))
      rw [HD.out k hkn] at HN
      have HST := hide (partly_step G k (by omega))
      have hlp : (partly G k).length = 5 := by rw [partly_length, hG]
      generalize nth G k = g at *
      have e1 : ((g : Int) == 126) = false := by simp; omega
      have e2 : ((g : Int) == 122) = false := by simp; omega
      have HBK := hide hb
      have HKK := hide kk
      have hk5 : k < 5 := by omega
      clear hb kk hr
      go_wp2_with fail
      refine HN.out.mono ?_
      rintro e w1 ⟨rfl, r1, k1⟩
      have hb1 := k1.block w.heap.size _ (by simp; omega) HBK.out (Or.inr (by intro c fz e; simp at e))
      obtain ⟨x, hx⟩ : ∃ x, w1.cell? ⟨w.heap.size, k, none⟩ = some x := by
        rw [cell_blk hb1]
        exact ⟨_, Array.getElem?_eq_getElem (by simp [byteVals, hlp]; omega)⟩
      have fx : w1.frozen? ⟨w.heap.size, k, none⟩ = false := free_blk hb1
      have HB2 : Hid ((w1.setCell ⟨w.heap.size, k, none⟩ (.int .u8 (g : Nat))).heap[w.heap.size]? = some (.cells (byteVals (partly G (k + 1))).toArray 184 (0, 0))) := by
        unfold Hid
        rw [blk_setCell _ hb1, HST.out]
        exact congrArg (fun C => some (Obj.cells C 184 (0, 0))) (byteVals_set (partly G k) k g)
      have HR2 := hide (r1.other (i := k) hb1 (by decide) (by omega) (by omega) (.int .u8 (g : Nat)))
      have HK2 := hide (Kept.setNew (HKK.out.trans k1) (q := ⟨w.heap.size, k, none⟩) (Nat.le_refl _) (.int .u8 (g : Nat)))
      clear r1 k1 hb1 HBK HKK HN HST
      go_wp2_with (first | (go_at_call 216; refine (within_byte_yes _ _ _ _ (by omega) (by omega)).mono ?_; rintro e w' ⟨rfl, rfl⟩) | (go_at_call 163; refine (must_yes _).mono ?_; rintro e w' ⟨rfl, rfl⟩))
      go_roundw
      case rel => exact ⟨k + 1, by omega, by go_num, HB2.out, HR2.out, HK2.out⟩
      case measure => simp [intOf]; omega
    · obtain rfl : k = n := by omega
      have HN := hide (nextInk_ok hr (by omega) (by rw [HE1.out]; rfl))
      rw [HE1.out] at HN
      have hk5 : (k : Int) < 5 := by omega
      have HBK := hide hb
      have HKK := hide kk
      clear hb kk hr
      go_wp2_with fail
      refine HN.out.mono ?_
      rintro e w1 ⟨rfl, r1, k1⟩
      have hb1 := hide (k1.block w.heap.size _ (by simp; omega) HBK.out (Or.inr (by intro c fz e; simp at e)))
      have K1 := hide (HKK.out.trans k1)
      have HN2 := hide (next_ok (w := w1.drew) (r1.drewN 1) (by omega))
      rw [show p + k + 1 = p + k + 1 from rfl, HE2.out] at HN2
      clear r1 k1 HBK HKK HN
      go_wp2_with fail
      go_region_with (first | (go_at_call 214; refine HN2.out.mono ?_; rintro e w2 ⟨rfl, r2, k2⟩) | (go_at_call 163; refine (must_yes _).mono ?_; rintro e w' ⟨rfl, rfl⟩))
      all_goals (
        have HR2 := hide r2
        have hb2 := k2.block w.heap.size _ (by simp; omega) (show w1.drew.heap[w.heap.size]? = _ from hb1.out) (Or.inr (by intro c fz e; simp at e))
        have K2 := hide ((K1.out.drew).trans k2)
        have hcs := range_of_blk hb2
        have hi5 : Hid ((Tryz.prog.info? 184).map (·.size) = some (byteVals (partly G k)).length) := by
          unfold Hid byteVals; rw [List.length_map, partly_length, hG]; kernel_rfl
        clear r2 k2 hb2
        go_wp2_with (refine wpList_load_mid rfl 184 (.tmp 3) rfl w.heap.size 0 rfl _ _ hcs.out Tryz.underlying184 rfl hi5.out ?_)
        refine (HPS.out _ _ HR2.out).mono ?_
        rintro e w3 ⟨rfl, ov3, r3, k3⟩
        go_wp2
        go_ret
        exact ⟨rfl, ov3, r3, K2.out.trans k3⟩)
end Go.Proofs.YtgkljcmjnphpeaaGreatDoor
namespace Go.Proofs.YtgkljcmjnphpeaaGreatDoor
open Go.RowKit
variable {w : World}
def tnth (t : List (Nat × Nat)) (i : Nat) : Nat × Nat := t.getD i (0, 0)
/-- Codes in memory, by their symbols. -/
def CodeRow (w : World) (g : Nat) (t : List (Nat × Nat)) : Prop :=
  ∃ C : Array Value, w.heap[g]? = some (.cells C 197 (0, 0)) ∧ C.size = 2 * t.length ∧ ∀ i, i < t.length → C[i * 2]? = some (.int .i64 ((tnth t i).1 : Nat)) ∧ C[i * 2 + 1]? = some (.int .i64 ((tnth t i).2 : Nat))
theorem CodeRow.set {g : Nat} {t : List (Nat × Nat)} (h : CodeRow w g t) (s : Nat) (x : Nat × Nat) :
    CodeRow ((w.setCell ⟨g, s * 2, none⟩ (.int .i64 (x.1 : Nat))).setCell ⟨g, s * 2 + 1, none⟩ (.int .i64 (x.2 : Nat))) g (t.set s x) := by
  obtain ⟨C, h1, h2, h3⟩ := h
  refine ⟨_, blk_setCell _ (blk_setCell _ h1), by simp [h2], fun i hi => ?_⟩
  rw [List.length_set] at hi
  obtain ⟨e1, e2⟩ := h3 i hi
  by_cases c : s = i
  · subst c
    have e : tnth (t.set s x) s = x := by simp [tnth, hi]
    rw [e]
    constructor
    · rw [Array.getElem?_setIfInBounds_ne (by omega), Array.getElem?_setIfInBounds_self_of_lt (by omega)]
    · rw [Array.getElem?_setIfInBounds_self_of_lt (by simp; omega)]
  · have e : tnth (t.set s x) i = tnth t i := by simp [tnth, List.getElem?_set_ne c]
    rw [e]
    constructor
    · rw [Array.getElem?_setIfInBounds_ne (by omega), Array.getElem?_setIfInBounds_ne (by omega)]; exact e1
    · rw [Array.getElem?_setIfInBounds_ne (by omega), Array.getElem?_setIfInBounds_ne (by omega)]; exact e2
theorem CodeRow.range {g : Nat} {t : List (Nat × Nat)} (h : CodeRow w g t) (s : Nat) (hs : s < t.length) : w.rangeAt g (s * 2) [.int .i64 ((tnth t s).1 : Nat), .int .i64 ((tnth t s).2 : Nat)] := by
  obtain ⟨C, h1, h2, h3⟩ := h
  intro j v hj
  obtain ⟨e1, e2⟩ := h3 s hs
  rw [cell_blk h1]
  match j, hj with
  | 0, hj => simp at hj; subst hj; exact e1
  | 1, hj => simp at hj; subst hj; exact e2
theorem CodeRow.made {w1 : World} {B g N : Nat} (h : w1.ownsRow B 197 2 (.slice (some ⟨g, 0, none⟩) N N) N (madeCells #[.int .i64 0, .int .i64 0] (N * 2)).toList) : CodeRow w1 g (List.replicate N (0, 0)) := by
  rcases h.2 with ⟨h0, _⟩ | ⟨g', cap, cur, hv, _, hh, _, _, hcs, ht⟩
  · cases h0
  cases hv
  have e : cur.toList = (madeCells #[.int .i64 0, .int .i64 0] (N * 2)).toList := by
    rw [← ht, List.take_of_length_le (by rw [Array.length_toList, hcs]; omega)]
  have e' : cur = madeCells #[.int .i64 0, .int .i64 0] (N * 2) := Array.toList_inj.1 e
  refine ⟨cur, hh, by rw [hcs]; simp; omega, fun i hi => ?_⟩
  rw [List.length_replicate] at hi
  have t0 : tnth (List.replicate N (0, 0)) i = (0, 0) := by simp [tnth, hi]
  rw [t0, e', madeCells]
  constructor
  · rw [Array.getElem?_map, Array.getElem?_range, if_pos (by omega)]; simp
  · rw [Array.getElem?_map, Array.getElem?_range, if_pos (by omega)]
    simp [show (i * 2 + 1) % 2 = 1 by omega]
theorem CodeRow.kept {e B : Nat} {S : List Nat} {w' : World} {g : Nat} {t : List (Nat × Nat)} (h : CodeRow w g t) (k : Kept 5 B S w w') (hS : g ∉ S) : CodeRow w' g t := by
  obtain ⟨C, h1, h2⟩ := h
  exact ⟨C, k.block g _ hS h1 (Or.inr (by intro c fz e; simp at e)), h2⟩
theorem CodeRow.below {B : Nat} {w' : World} {g : Nat} {t : List (Nat × Nat)} (h : CodeRow w g t) (k : Below B w w') (hg : g < B) : CodeRow w' g t := by
  obtain ⟨C, h1, h2⟩ := h
  exact ⟨C, by rw [k.block g hg]; exact h1, h2⟩
/-- What is laid by the codes of one length. -/
def laid (ss : List Nat) (t : List (Nat × Nat)) (len V P : Nat) : Nat → List (Nat × Nat)
  | 0 => t
  | i + 1 => (laid ss t len V P i).set (nth ss (P + i)) (V + i, len)
theorem Cd.below {bc oc B : Nat} {cs ss : List Nat} {w' : World} (h : Cd w bc oc cs ss) (k : Below B w w') (hb : bc < B) (hs : ∀ g c, w.cell? ⟨bc, oc + 16, none⟩ = some (.slice (some ⟨g, 0, none⟩) ss.length c) → g < B) : Cd w' bc oc cs ss := by
  obtain ⟨h1, g, c, h2, h3⟩ := h
  have := hs g c h2
  exact ⟨fun i hi => (k.cell (p := ⟨bc, oc + i, none⟩) hb).trans (h1 i hi), g, c, (k.cell (p := ⟨bc, oc + 16, none⟩) hb).trans h2, fun i hi => (k.cell (p := ⟨g, i, none⟩) this).trans (h3 i hi)⟩
end Go.Proofs.YtgkljcmjnphpeaaGreatDoor
