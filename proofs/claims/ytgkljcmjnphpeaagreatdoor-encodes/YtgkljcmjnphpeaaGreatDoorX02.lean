/- encodeFlate of all bytes that may be packed: how few come out. -/
import Derived.Test.YtgkljcmjnphpeaaGreatDoorX01
import Derived.WalkKit
import Derived.Laws.BitsAllLaws
import Derived.BigRegion
import Derived.StillTailTactics
import Derived.Deep.MidRow
import Derived.MapKept
import Derived.Laws.AppendOwnNone
set_option linter.unusedVariables false
set_option linter.unusedSimpArgs false
namespace Go.Proofs.YtgkljcmjnphpeaaGreatDoor
open Go.RowKit
variable {w : World} {B cap : Nat} {data : List Nat} {ao : Option Addr}
theorem packed_fixed {out : List Nat} {used : Nat} {eb : List Bool} (hb : Fo.BW out used (fixedBits eb)) (he : Fo.Enc data data.length eb) : Packed data out := by
  obtain ⟨h1, h2, h3, h4⟩ := hb
  have e : ∀ t, fixedBits eb ++ List.replicate ((8 - used) % 8) false ++ Fo.bitsOf t = true :: (Fo.numBits 2 1 ++ (eb ++ (Fo.codeBits Fo.tabF 256 ++ (List.replicate ((8 - used) % 8) false ++ Fo.bitsOf t)))) := by
    intro t
    unfold fixedBits; simp only [List.cons_append, List.append_assoc]
  refine ⟨fun most t hm => ?_, fun most t hm => ?_⟩
  · refine ⟨List.replicate ((8 - used) % 8) false ++ Fo.bitsOf t, ?_, ?_⟩
    · rw [Fo.bitsOf_append, h4, e]
      exact .lastFixed (he.whole hm _)
    · rw [List.length_append, List.length_replicate, Fo.bitsOf_length]
      rw [show ((8 - used) % 8 + 8 * t.length) % 8 = (8 - used) % 8 by omega]
      rw [List.drop_left' (by rw [List.length_replicate])]
  · rw [Fo.bitsOf_append, h4, e]
    exact Or.inl ⟨true, _, rfl, he.cap hm _⟩
theorem own_new {w : World} {B : Nat} (hB : B ≤ w.heap.size) (l : List Nat) (hl : l.length ≤ 100) : (w.alloc (.cells (l.map fun x : Nat => Value.int .u8 (x : Int)).toArray 5)).ownsRow B 5 1 (.slice (some ⟨w.heap.size, 0, none⟩) l.length l.length) l.length (l.map fun x : Nat => .int .u8 (x : Int)) := by
  refine ⟨by simp, Or.inr ⟨w.heap.size, l.length, _, rfl, hB, blk_new _ _, Nat.le_refl _, by unfold maxLen; omega, by simp, ?_⟩⟩
  rw [List.take_of_length_le (by simp)]
theorem fixedBits_len (eb : List Bool) : (fixedBits eb).length = 10 + eb.length := by
  unfold fixedBits
  rw [codeBits_eq, code256]
  simp only [List.length_cons, List.length_append, Fo.numBits_length, highBits_length]; omega
def flOut (data bl : List Nat) : List Nat := [120, 156] ++ bl ++ sum4 data
theorem own_far' {w : World} {B e n size k : Nat} {v : Value} {xs : List Value} (h : w.ownsRow B e size v n xs) (hk : k < B) : some k ≠ v.ownBlock := fun he => own_far h hk he.symm
end Go.Proofs.YtgkljcmjnphpeaaGreatDoor
namespace Go.Proofs.YtgkljcmjnphpeaaGreatDoor
open Go.RowKit
variable {w : World} {B cap n : Nat} {data : List Nat} {ao : Option Addr} {P : Value → World → Prop}
theorem fenc4 (hc : Calls Tryz.prog 104 #[.slice ao n cap] w fun e w' => ∃ v, e = .returned v ∧ P v w') :
    Calls Tryz.prog 70 #[.int .i64 4, .slice ao n cap] w fun e w' => ∃ v, e = .returned v ∧ P v w' := by
  have HC := hide hc
  clear hc
  go_enter Tryz.func70, Tryz.ntmps70
  go_wp2_with fail
  refine HC.out.mono ?_
  rintro e w1 ⟨v, rfl, hp⟩
  go_wp2
  go_ret
  exact ⟨v, rfl, hp⟩
end Go.Proofs.YtgkljcmjnphpeaaGreatDoor
namespace Go.Proofs.YtgkljcmjnphpeaaGreatDoor
open Go.RowKit
def val4 (b0 b1 b2 b3 : Nat) : Nat := b0 * 16777216 + b1 * 65536 + b2 * 256 + b3
def dig5 (V : Nat) : List Nat := [33 + V / 52200625, 33 + V / 614125 % 85, 33 + V / 7225 % 85, 33 + V / 85 % 85, 33 + V % 85]
/-- What the filter writes. -/
def enc85 : List Nat → List Nat
  | b0 :: b1 :: b2 :: b3 :: l => (if b0 = 0 ∧ b1 = 0 ∧ b2 = 0 ∧ b3 = 0 then [122] else dig5 (val4 b0 b1 b2 b3)) ++ enc85 l
  | [b0, b1, b2] => (dig5 (val4 b0 b1 b2 0)).take 4 ++ [126, 62]
  | [b0, b1] => (dig5 (val4 b0 b1 0 0)).take 3 ++ [126, 62]
  | [b0] => (dig5 (val4 b0 0 0 0)).take 2 ++ [126, 62]
  | [] => [126, 62]
theorem val4_lt {b0 b1 b2 b3 : Nat} (h0 : b0 < 256) (h1 : b1 < 256) (h2 : b2 < 256) (h3 : b3 < 256) : val4 b0 b1 b2 b3 ≤ 4294967295 := by unfold val4; omega
end Go.Proofs.YtgkljcmjnphpeaaGreatDoor
namespace Go.Proofs.YtgkljcmjnphpeaaGreatDoor
open Go.RowKit
theorem bytesAt_app (a b : List Bool) (n : Nat) (h : 8 * n ≤ a.length) : Fo.bytesAt (a ++ b) n = Fo.bytesAt a n := by
  unfold Fo.bytesAt
  refine List.map_congr_left (fun i hi => ?_)
  rw [List.mem_range] at hi
  rw [List.drop_append_of_le_length (by omega), List.take_append_of_le_length (by rw [List.length_drop]; omega)]
theorem val_num (n v : Nat) (h : v < 2 ^ n) : Fo.val (Fo.numBits n v) = v := by rw [Fo.val_numBits, Nat.mod_eq_of_lt h]
/-- One stored block, as the document reads it. -/
theorem stored_block {window most : Nat} {r r' : List Bool} {out D : List Nat} (b : Bool) (h : StoredAt most r out D r') : Fo.BlockTo window most (b :: (Fo.numBits 2 0 ++ r)) out (.ok (r', out ++ D)) := by
  obtain ⟨h0, h1, h2, h3, h4, h5⟩ := h
  refine Or.inr (Or.inl ⟨by simp [Fo.numBits_length], ?_, ?_⟩)
  · show Fo.val (((Fo.numBits 2 0 ++ r)).take 2) = 0
    rw [List.take_left' (by rw [Fo.numBits_length])]; decide
  show Fo.storedDec most ((Fo.numBits 2 0 ++ r).drop 2) out = _
  rw [List.drop_left' (by rw [Fo.numBits_length])]
  unfold Fo.storedDec
  rw [h3]
  have e1 : (Fo.numBits 16 D.length ++ (Fo.numBits 16 (65535 - D.length) ++ (Fo.bitsOf D ++ r'))).take 16 = Fo.numBits 16 D.length := List.take_left' (by rw [Fo.numBits_length])
  have e2 : (Fo.numBits 16 D.length ++ (Fo.numBits 16 (65535 - D.length) ++ (Fo.bitsOf D ++ r'))).drop 16 = Fo.numBits 16 (65535 - D.length) ++ (Fo.bitsOf D ++ r') := List.drop_left' (by rw [Fo.numBits_length])
  have e3 : (Fo.numBits 16 (65535 - D.length) ++ (Fo.bitsOf D ++ r')).take 16 = Fo.numBits 16 (65535 - D.length) := List.take_left' (by rw [Fo.numBits_length])
  have e4 : (Fo.numBits 16 D.length ++ (Fo.numBits 16 (65535 - D.length) ++ (Fo.bitsOf D ++ r'))).drop 32 = Fo.bitsOf D ++ r' := by
    rw [show (32 : Nat) = 16 + 16 from rfl, ← List.drop_drop, e2]
    exact List.drop_left' (by rw [Fo.numBits_length])
  have p16 : (2 : Nat) ^ 16 = 65536 := by decide
  rw [e1, e2, e3, e4, val_num 16 D.length (by omega), val_num 16 (65535 - D.length) (by omega)]
  have hb : Fo.bytesAt (Fo.bitsOf D ++ r') D.length = D := by
    rw [bytesAt_app _ _ _ (by rw [Fo.bitsOf_length]; omega), bytesAt_bits D (nth_lt_mem h2) _ (Nat.le_refl _), List.take_length]
  have hd : (Fo.bitsOf D ++ r').drop (8 * D.length) = r' := List.drop_left' (by rw [Fo.bitsOf_length])
  rw [if_neg (by simp only [List.length_append, Fo.numBits_length]; omega), if_neg (by simp only [List.length_append, Fo.bitsOf_length]; omega), if_pos h5, hb, hd]
theorem blocksTo_of {window most : Nat} {r r' : List Bool} {out out' : List Nat} (h : Blocks window most r out r' out') : Fo.BlocksTo window most r out (.ok (r', out')) := by
  refine h (fun r out r' out' => Fo.BlocksTo window most r out (.ok (r', out'))) ?_ ?_ ?_
  · intro r r' out out' h
    refine Fo.BlocksTo.stop ?_ rfl
    refine Or.inr (Or.inr (Or.inl ⟨by simp [Fo.numBits_length], ?_, ?_⟩))
    · show Fo.val (((Fo.numBits 2 1 ++ r)).take 2) = 1
      rw [List.take_left' (by rw [Fo.numBits_length])]; decide
    · show Fo.PartsTo Fo.fixedC window most ((Fo.numBits 2 1 ++ r).drop 2) out _
      rw [List.drop_left' (by rw [Fo.numBits_length])]; exact h
  · intro r r' out D h
    exact Fo.BlocksTo.stop (stored_block true h) rfl
  · intro r r' r'' out out'' D h k
    exact Fo.BlocksTo.more (stored_block false h) rfl k
/-- Blocks that are unpacked to the data, where there is room. -/
def PackedTo (data bl : List Nat) : Prop := ∀ (most : Nat) (t : List Nat), data.length ≤ most → ∃ r, Blocks 32768 most (Fo.bitsOf (bl ++ t)) [] r data ∧ r.drop (r.length % 8) = Fo.bitsOf t
theorem sum4_byteE (data : List Nat) : ∀ x ∈ sum4 data, x < 256 := by
  intro x hx
  have h := sumAB_lt data
  unfold sum4 at hx
  simp only [List.mem_cons, List.not_mem_nil, or_false] at hx
  rcases hx with rfl | rfl | rfl | rfl <;> omega
theorem undo_packed {data bl : List Nat} (h : PackedTo data bl) (most : Nat) (hm : data.length ≤ most) : UndoTo 4 most (flOut data bl) (.ok data) := by
  obtain ⟨r, hB, hr⟩ := h most (sum4 data) hm
  refine Or.inr (Or.inr (Or.inr ⟨rfl, Or.inr ⟨r, data, Or.inr ⟨?_, ?_⟩, ?_⟩⟩))
  · unfold flOut
    rw [List.append_assoc, Fo.bitsOf_append]
    refine ⟨by rw [List.length_append, Fo.bitsOf_length]; simp, ?_⟩
    rw [List.take_append_of_le_length (by rw [Fo.bitsOf_length]; simp), List.drop_append_of_le_length (by rw [Fo.bitsOf_length]; simp), List.take_append_of_le_length (by rw [List.length_drop, Fo.bitsOf_length]; simp)]
    unfold Fo.headGood; decide +kernel
  · unfold flOut
    rw [List.append_assoc, Fo.bitsOf_append, List.take_append_of_le_length (by rw [Fo.bitsOf_length]; simp), List.drop_left' (by rw [Fo.bitsOf_length]; rfl)]
    have e : 2 ^ (Fo.val ((Fo.bitsOf [120, 156]).take 8) / 16 + 8) = 32768 := by decide +kernel
    rw [e]
    exact blocksTo_of hB
  · unfold Fo.sumDec
    have hl : (sum4 data).length = 4 := rfl
    rw [hr, if_pos ⟨by rw [Fo.bitsOf_length, hl], by rw [bytesAt_bits _ (sum4_byteE data) _ (by rw [hl]; omega), ← hl, List.take_length]⟩]
end Go.Proofs.YtgkljcmjnphpeaaGreatDoor
namespace Go.Proofs.YtgkljcmjnphpeaaGreatDoor
open Go.RowKit
variable {w : World} {B cap : Nat} {data : List Nat} {ao : Option Addr}
/-- The bits of a stored block that begins at a byte. -/
def stBlock (b : Bool) (D : List Nat) : List Bool := b :: (Fo.numBits 2 0 ++ (List.replicate 5 false ++ (Fo.numBits 16 D.length ++ (Fo.numBits 16 (65535 - D.length) ++ Fo.bitsOf D))))
theorem stBlock_len (b : Bool) (D : List Nat) : (stBlock b D).length = 40 + 8 * D.length := by
  unfold stBlock
  simp only [List.length_cons, List.length_append, Fo.numBits_length, List.length_replicate, Fo.bitsOf_length]; omega
theorem stBlock_eq (bs : List Bool) (h : bs.length % 8 = 0) (b : Bool) (n : Nat) (hn : Fo.numBits 1 n = [b]) (D : List Nat) :
    bs ++ Fo.numBits 1 n ++ Fo.numBits 2 0 ++ List.replicate ((8 - (bs ++ Fo.numBits 1 n ++ Fo.numBits 2 0).length % 8) % 8) false ++ Fo.numBits 16 D.length ++ Fo.numBits 16 (65535 - D.length) ++ Fo.bitsOf D = bs ++ stBlock b D := by
  have e5 : (8 - (bs ++ Fo.numBits 1 n ++ Fo.numBits 2 0).length % 8) % 8 = 5 := by
    simp only [List.length_append, Fo.numBits_length]; omega
  rw [e5, hn]
  unfold stBlock
  simp only [List.append_assoc, List.cons_append, List.nil_append]
/-- Blocks that come ahead of others. -/
def PreOk (bs : List Bool) (pre : List Nat) : Prop := ∀ (most : Nat) (R r' : List Bool) (out : List Nat), pre.length ≤ most → R.length % 8 = 0 → Blocks 32768 most R pre r' out → Blocks 32768 most (bs ++ R) [] r' out
theorem stored_at (R : List Bool) (D out : List Nat) (most : Nat) (h0 : 0 < D.length) (h1 : D.length ≤ 65535) (h2 : ∀ i, i < D.length → nth D i < 256) (hR : R.length % 8 = 0) (hm : out.length + D.length ≤ most) :
    StoredAt most (List.replicate 5 false ++ (Fo.numBits 16 D.length ++ (Fo.numBits 16 (65535 - D.length) ++ (Fo.bitsOf D ++ R)))) out D R := by
  refine ⟨h0, h1, h2, ?_, hR, hm⟩
  have l5 : (List.replicate 5 false ++ (Fo.numBits 16 D.length ++ (Fo.numBits 16 (65535 - D.length) ++ (Fo.bitsOf D ++ R)))).length % 8 = 5 := by
    simp only [List.length_append, List.length_replicate, Fo.numBits_length, Fo.bitsOf_length]; omega
  rw [l5, List.drop_left' (by rw [List.length_replicate])]
theorem PreOk.more {bs : List Bool} {pre : List Nat} (h : PreOk bs pre) (D : List Nat) (h0 : 0 < D.length) (h1 : D.length ≤ 65535) (h2 : ∀ i, i < D.length → nth D i < 256) : PreOk (bs ++ stBlock false D) (pre ++ D) := by
  intro most R r' out hm hR hB
  rw [List.length_append] at hm
  rw [List.append_assoc]
  refine h most _ r' out (by omega) ?_ ?_
  · rw [List.length_append, stBlock_len]; omega
  · have e : stBlock false D ++ R = false :: (Fo.numBits 2 0 ++ (List.replicate 5 false ++ (Fo.numBits 16 D.length ++ (Fo.numBits 16 (65535 - D.length) ++ (Fo.bitsOf D ++ R))))) := by
      unfold stBlock; simp only [List.cons_append, List.append_assoc]
    rw [e]
    have k := stored_at R D pre most h0 h1 h2 hR hm
    exact .moreStored D k.h0 k.h1 k.h2 k.h3 k.h4 k.h5 hB
theorem PreOk.last {bs : List Bool} {pre out : List Nat} (h : PreOk bs pre) (D : List Nat) (h0 : 0 < D.length) (h1 : D.length ≤ 65535) (h2 : ∀ i, i < D.length → nth D i < 256) (hb : Fo.BW out 0 (bs ++ stBlock true D)) : PackedTo (pre ++ D) out := by
  obtain ⟨_, b2, b3, b4⟩ := hb
  intro most t hm
  rw [List.length_append] at hm
  refine ⟨Fo.bitsOf t, ?_, by rw [Fo.bitsOf_length, show (8 * t.length) % 8 = 0 by omega, List.drop_zero]⟩
  rw [Fo.bitsOf_append, b4, show (8 - 0) % 8 = 0 from rfl, List.replicate_zero, List.append_nil, List.append_assoc]
  refine h most _ _ _ (by omega) (by rw [List.length_append, stBlock_len, Fo.bitsOf_length]; omega) ?_
  have e : stBlock true D ++ Fo.bitsOf t = true :: (Fo.numBits 2 0 ++ (List.replicate 5 false ++ (Fo.numBits 16 D.length ++ (Fo.numBits 16 (65535 - D.length) ++ (Fo.bitsOf D ++ Fo.bitsOf t))))) := by
    unfold stBlock; simp only [List.cons_append, List.append_assoc]
  rw [e]
  have k := stored_at (Fo.bitsOf t) D pre most h0 h1 h2 (by rw [Fo.bitsOf_length]; omega) hm
  exact .lastStored D k.h0 k.h1 k.h2 k.h3 k.h4 k.h5
theorem PreOk.nil : PreOk [] [] := fun _ _ _ _ _ _ h => h
theorem nth_take_lt (D : List Nat) (k i : Nat) (h : i < k) : nth (D.take k) i = nth D i := by
  unfold nth; rw [List.getD_eq_getElem?_getD, List.getD_eq_getElem?_getD, List.getElem?_take_of_lt h]
theorem nth_drop_at (D : List Nat) (k i : Nat) : nth (D.drop k) i = nth D (k + i) := by
  unfold nth; rw [List.getD_eq_getElem?_getD, List.getD_eq_getElem?_getD, List.getElem?_drop]
theorem Dat.takeN {D : List Nat} (h : Dat w B ao D) (k : Nat) : Dat w B ao (D.take k) := by
  intro i hi
  rw [List.length_take] at hi
  obtain ⟨b, o, e1, e2, e3⟩ := h i (by omega)
  exact ⟨b, o, e1, e2, by rw [nth_take_lt _ _ _ (by omega)]; exact e3⟩
theorem Dat.dropN {D : List Nat} {b o : Nat} (h : Dat w B (some ⟨b, o, none⟩) D) (k : Nat) : Dat w B (some ⟨b, o + k, none⟩) (D.drop k) := by
  intro i hi
  rw [List.length_drop] at hi
  obtain ⟨b', o', e1, e2, e3⟩ := h (k + i) (by omega)
  cases e1
  exact ⟨b, o + k, rfl, e2, by rw [nth_drop_at, Nat.add_assoc]; exact e3⟩
def sliceLenS : Value → Nat
  | .slice _ n _ => n
  | _ => 0
/-- Where stored stands. -/
structure StAt (W0 : World) (data : List Nat) (S j : Nat) (bs : List Bool) (pre D : List Nat) (ao : Option Addr) (c : Nat) (wr : World) : Prop where
  cut : data = pre ++ D
  dat : Dat wr S ao D
  byt : ∀ i, i < D.length → nth D i < 256
  non : ao = none → c = 0
  lc : D.length ≤ c ∧ c ≤ 9223372036854775807
  wx : Wx S S 190 [] wr bs
  ok : PreOk bs pre
  bl : bs.length = j * 524320
  pl : pre.length = j * 65535
  pos : 0 < data.length → 0 < D.length
  kept : Kept 5 S [S] W0 wr
/-- What stored answers. -/
structure StoOk (data out : List Nat) : Prop where
  to : 0 < data.length → PackedTo data out
  few : out.length = data.length + 5 * (if data.length = 0 then 1 else (data.length + 65534) / 65535)
  byt : ∀ x ∈ out, x < 256
set_option maxRecDepth 100000 in
set_option maxHeartbeats 2000000 in
theorem wstored_all (hd : Dat w B ao data) (hB : B ≤ w.heap.size) (byt : ∀ i, i < data.length → nth data i < 256) (len : data.length ≤ 200000) (lc : data.length ≤ cap ∧ cap ≤ 9223372036854775807) (hn : ao = none → cap = 0) :
    Calls Tryz.prog 148 #[.slice ao data.length cap] w fun e w' => ∃ (ov : Value) (out : List Nat), e = .returned ov ∧ w'.ownsRow w.heap.size 5 1 ov out.length (out.map fun x : Nat => .int .u8 (x : Int)) ∧ Below w.heap.size w w' ∧ StoOk data out := by
  have hx : Wx w.heap.size w.heap.size 190 [] (w.alloc (.cells #[.slice none 0 0, .int .i64 0] 190)) [] := ⟨.slice none 0 0, [], 0, ⟨Nat.le_refl _, by decide, blk_new _ _, World.ownsRow_nil _ _ _ _⟩, Fo.BW.nil⟩
  have hd' : Dat (w.alloc (.cells #[.slice none 0 0, .int .i64 0] 190)) w.heap.size ao data := by
    intro i hi
    obtain ⟨b, o, e1, e2, e3⟩ := hd i hi
    exact ⟨b, o, e1, by omega, by rw [World.cell?_alloc_lt _ _ _ (by show b < _; omega)]; exact e3⟩
  have H0 := hide (show StAt (w.alloc (.cells #[.slice none 0 0, .int .i64 0] 190)) data w.heap.size 0 [] [] data ao cap (w.alloc (.cells #[.slice none 0 0, .int .i64 0] 190)) from ⟨rfl, hd', byt, hn, lc, hx, .nil, rfl, rfl, id, Kept.refl _ _ _ _⟩)
  have HB0 := hide (show Below w.heap.size w (w.alloc (.cells #[.slice none 0 0, .int .i64 0] 190)) from (Below.refl _ _).alloc (Nat.le_refl _) _)
  clear hd hd' byt hx hn
  go_enter Tryz.func148, Tryz.ntmps148
  go_wp2
  generalize w.alloc (.cells #[.slice none 0 0, .int .i64 0] 190) = W0 at *
  go_loopw [0] (fun d wr => ∃ (j : Nat) (bs : List Bool) (pre D : List Nat) (ao : Option Addr) (c : Nat), d = .slice ao D.length c ∧ StAt W0 data w.heap.size j bs pre D ao c wr) (fun d _ => sliceLenS d)
  case atStart => exact ⟨0, [], [], data, ao, cap, rfl, H0.out⟩
  case round =>
    obtain ⟨j, bs, pre, D, ao', c, rfl, h⟩ := hrel
    have H := hide h
    have hlen : data.length = pre.length + D.length := by rw [h.cut, List.length_append]
    have hbl := h.bl
    have hpl := h.pl
    have hj : j ≤ 3 := by omega
    have hlc := h.lc
    by_cases hlt : 65535 < D.length
    · have hlt' : (65535 : Int) < D.length := by omega
      obtain ⟨b, o, rfl, hb, _⟩ := h.dat.at (by omega)
      have htl : (D.take 65535).length = 65535 := by rw [List.length_take]; omega
      have hdl : (D.drop 65535).length = D.length - 65535 := by rw [List.length_drop]
      have tb : ∀ i, i < (D.take 65535).length → nth (D.take 65535) i < 256 := fun i hi => by
        rw [htl] at hi; rw [nth_take_lt _ _ _ hi]; exact h.byt i (by omega)
      have HC := hide (storedBlock_ok (cap := c) h.wx 0 (by omega) (h.dat.takeN 65535) tb (by omega) (by simp) (by omega))
      rw [stBlock_eq bs (by omega) false 0 rfl, htl] at HC
      clear h
      go_wp2_with fail
      refine HC.out.mono ?_
      rintro e w1 ⟨rfl, h1, k1⟩
      have H1 := hide (show StAt W0 data w.heap.size (j + 1) (bs ++ stBlock false (D.take 65535)) (pre ++ D.take 65535) (D.drop 65535) (some ⟨b, o + 65535, none⟩) (c - 65535) w1 from
        ⟨by rw [List.append_assoc, List.take_append_drop]; exact H.out.cut, (H.out.dat.kept k1 (by simp)).dropN _, fun i hi => by rw [nth_drop_at]; exact H.out.byt _ (by omega), by simp, by omega, h1, H.out.ok.more _ (by omega) (by omega) tb, by rw [List.length_append, stBlock_len]; omega, by rw [List.length_append]; omega, fun _ => by omega, H.out.kept.trans k1⟩)
      clear h1 k1 HC H
      go_wp2
      go_roundw
      case rel => exact ⟨j + 1, _, _, _, _, _, by rw [hdl], H1.out⟩
      case measure => simp [sliceLenS]; omega
    · have hlt' : ¬ (65535 : Int) < D.length := by omega
      have HC := hide (storedBlock_ok (cap := c) h.wx 1 (by omega) h.dat h.byt (by omega) h.non (by omega))
      rw [stBlock_eq bs (by omega) true 1 rfl] at HC
      clear h
      go_wp2_with fail
      refine HC.out.mono ?_
      rintro e w1 ⟨rfl, ⟨ov, out, used, hq, hb⟩, k1⟩
      have c0 := hq.c0
      obtain rfl : used = 0 := by
        rw [← hb.2.1, List.length_append, stBlock_len]; omega
      have hol := bw_len hb
      rw [List.length_append, stBlock_len] at hol
      have HS := hide (show StoOk data out from ⟨fun h0 => by rw [H.out.cut]; exact H.out.ok.last D (H.out.pos h0) (by omega) H.out.byt hb, by
        rcases Nat.eq_zero_or_pos data.length with c0 | c0
        · rw [if_pos c0]; omega
        · rw [if_neg (by omega)]
          have := H.out.pos c0
          omega, hb.2.2.1⟩)
      have HK := hide (HB0.out.trans ((H.out.kept.trans k1).below HB0.out.size (by simp)))
      have HO := hide hq.own
      clear hq hb k1 H HC
      go_wp2
      go_ret
      exact ⟨ov, out, rfl, HO.out, HK.out, HS.out⟩
end Go.Proofs.YtgkljcmjnphpeaaGreatDoor
namespace Go.Proofs.YtgkljcmjnphpeaaGreatDoor
open Go.RowKit
variable {w : World} {B cap : Nat} {data : List Nat} {ao : Option Addr}
/-- As few bytes as there may be. -/
structure FewOk (data bl : List Nat) : Prop where
  few : bl.length ≤ data.length + 5 * ((data.length + 65534) / 65535) + 5
  alike : Alike data → 8 * bl.length ≤ 44 + 19 * ((data.length + 257) / 258)
theorem sto_len {out : List Nat} (h : StoOk data out) (len : data.length ≤ 200000) : data.length + 5 ≤ out.length ∧ out.length ≤ data.length + 20 ∧ out.length ≤ data.length + 5 * ((data.length + 65534) / 65535) + 5 := by
  have hf := h.few
  by_cases c : data.length = 0
  · rw [if_pos c] at hf; omega
  · rw [if_neg c] at hf; omega
set_option maxRecDepth 100000 in
set_option maxHeartbeats 2000000 in
theorem encodeFlate_all (hd : Dat w B ao data) (hB : B ≤ w.heap.size) (byt : ∀ i, i < data.length → nth data i < 256) (len : data.length ≤ 200000) (lc : data.length ≤ cap ∧ cap ≤ 9223372036854775807) (hn : ao = none → cap = 0) :
    Calls Tryz.prog 104 #[.slice ao data.length cap] w fun e w' => ∃ (v : Value) (bl : List Nat), e = .returned v ∧ w'.ownsRow w.heap.size 5 1 v (flOut data bl).length ((flOut data bl).map fun x : Nat => .int .u8 (x : Int)) ∧ Below w.heap.size w w' ∧ PackedTo data bl ∧ 2 ≤ bl.length ∧ bl.length ≤ data.length + 30 ∧ (∀ x ∈ bl, x < 256) ∧ FewOk data bl := by
  obtain ⟨i0, hi, hz0, hz1, hz2⟩ := info_parts Tryz.infoByte
  have H1 := hide (dcoded_ok hd hB byt (by omega) lc)
  have HD := hide hd
  have BYT := hide byt
  clear hd byt
  go_enter Tryz.func104, Tryz.ntmps104
  go_wp2_with fail
  refine H1.out.mono ?_
  rintro e w1 ⟨ov1, out1, used, eb, rfl, own1, b1, hb1, henc, hel, hali⟩
  have HALI := hide hali
  clear hali
  have hP1 := hide (packed_fixed hb1 henc).to
  have hl1 := bw_len hb1
  rw [fixedBits_len] at hl1
  have hq1 := hide hb1.2.2.1
  obtain ⟨a1, c1, rfl⟩ := own_slice own1
  have OWN1 := hide own1
  have B1 := hide b1
  have hs1 := b1.size
  clear own1 b1 hb1 henc H1
  have hlow : 2 ≤ out1.length := by omega
  have HL1 := hide (And.intro hl1 hel)
  clear hl1 hel
  go_wp2_with fail
  refine (wstored_all (HD.out.below B1.out) (by omega) BYT.out len lc hn).mono ?_
  rintro e w2 ⟨ov2, out2, rfl, own2, b2, hb2⟩
  have HL2 := hide (sto_len hb2 len)
  obtain ⟨a2, c2, rfl⟩ := own_slice own2
  have O1 := hide (own_below OWN1.out b2)
  have O2 := hide (own_base own2 (B' := w.heap.size) hs1)
  have B2 := hide (B1.out.trans (b2.mono hs1))
  have HB2 := hide hb2
  have HD2 := hide (HD.out.below B2.out)
  have hs2 := B2.out.size
  clear own2 b2 OWN1 B1 hb2 HD
  by_cases hc : out2.length < out1.length
  · have hc' : (out2.length : Int) < out1.length := by omega
    have hpos : 0 < data.length := by
      have := HL1.out; have := HL2.out; omega
    have HP := hide (And.intro (HB2.out.to hpos) (And.intro (show 2 ≤ out2.length by have := HL2.out; omega) (And.intro (show out2.length ≤ data.length + 30 by have := HL2.out; omega) (And.intro HB2.out.byt (show FewOk data out2 from ⟨by have := HL2.out; omega, fun ha => by have := HL1.out; have := HALI.out ha; omega⟩)))))
    have O := O2
    clear O1 O2 HL1 HL2 HB2 hP1 hq1 hlow hn HALI
    obtain ⟨g, hag, hg⟩ : ∃ g, a2 = some ⟨g, 0, none⟩ ∧ w.heap.size ≤ g := by
      obtain ⟨g, c, hav, hg⟩ := own_form O.out (by have := HP.out.2.1; omega)
      cases hav
      exact ⟨g, rfl, hg⟩
    subst hag
    have hgl := (O.out.lt g rfl).2
    go_wp2_with fail
    refine (sum_ok ao cap data (B := B) (by omega) HD2.out (by omega) BYT.out).mono ?_
    rintro e w3 ⟨rfl, o3, rfl⟩
    unfold sumVal
    have hO3 := hide (((O.out.alloc o3).alloc (.cells #[.int .u8 ((sumAB data).2 / 256 : Nat), .int .u8 ((sumAB data).2 % 256 : Nat), .int .u8 ((sumAB data).1 / 256 : Nat), .int .u8 ((sumAB data).1 % 256 : Nat)] 153)).alloc (.cells #[.int .u8 120, .int .u8 156] 5))
    have hb5 := hide (((B2.out.alloc hs2 o3).alloc (by simp; omega) (.cells #[.int .u8 ((sumAB data).2 / 256 : Nat), .int .u8 ((sumAB data).2 % 256 : Nat), .int .u8 ((sumAB data).1 / 256 : Nat), .int .u8 ((sumAB data).1 % 256 : Nat)] 153)).alloc (by simp; omega) (.cells #[.int .u8 120, .int .u8 156] 5))
    have hN := hide (own_new (w := (w2.alloc o3).alloc (.cells #[.int .u8 ((sumAB data).2 / 256 : Nat), .int .u8 ((sumAB data).2 % 256 : Nat), .int .u8 ((sumAB data).1 / 256 : Nat), .int .u8 ((sumAB data).1 % 256 : Nat)] 153)) (B := w.heap.size) (by simp; omega) [120, 156] (by simp))
    have hS4 := hide (blk_alloc (.cells #[.int .u8 120, .int .u8 156] 5) (blk_new (w2.alloc o3) (.cells #[.int .u8 ((sumAB data).2 / 256 : Nat), .int .u8 ((sumAB data).2 % 256 : Nat), .int .u8 ((sumAB data).1 / 256 : Nat), .int .u8 ((sumAB data).1 % 256 : Nat)] 153)))
    have tok : True := trivial
    go_wp2_with (at_builtin; have _t := tok; refine wpList_append_own _ rfl (.tmp 19) (.tmp 20) 23 rfl w.heap.size 5 i0 (.int .u8 0) 1 1 Tryz.underlying23 hi hz0 hz1 hz2 rfl (by decide) (.slice (some ⟨w2.heap.size + 1 + 1, 0, none⟩) 2 2) 2 ([120, 156].map fun x : Nat => .int .u8 (x : Int)) rfl ?hown ⟨g, 0, none⟩ out2.length c2 (out2.map fun x : Nat => .int .u8 (x : Int)) rfl (by simp) ?hnews ?hone ?h63 ?hby ?hbs ?_; clear tok)
    case hown => simpa using hN.out
    case hnews => exact hO3.out.cells (g := g) rfl
    case hone => intro u hu; simp at hu; obtain ⟨x, _, rfl⟩ := hu; rfl
    case h63 => have := HP.out.2.2.1; unfold maxLen; omega
    case hby => have := HP.out.2.2.1; omega
    case hbs => simp; omega
    intro v1 w6 own6 hg6 _
    have hsum6 := hide (show w6.heap[w2.heap.size + 1]? = some (.cells #[.int .u8 ((sumAB data).2 / 256 : Nat), .int .u8 ((sumAB data).2 % 256 : Nat), .int .u8 ((sumAB data).1 / 256 : Nat), .int .u8 ((sumAB data).1 % 256 : Nat)] 153 (0, 0)) by
      rw [hg6.block _ (by simp) (by simp [Value.ownBlock])]; simpa using hS4.out)
    have B6 := hide (show Below w.heap.size w w6 from hb5.out.trans ⟨hg6.os, hg6.tape, hg6.output, hg6.size, fun k hk => hg6.block k (by simp; omega) (by simp [Value.ownBlock]; omega)⟩)
    have OWN6 := hide own6
    obtain ⟨a6, c6, rfl⟩ := own_slice own6
    clear own6 hg6 hb5 hN hS4 hO3 O B2 HD2
    have hs6 := B6.out.size
    have hsl := lt_of_block hsum6.out
    go_wp2_with (at_builtin; refine wpList_append_own _ rfl (.tmp 22) (.tmp 23) 23 rfl w.heap.size 5 i0 (.int .u8 0) 1 1 Tryz.underlying23 hi hz0 hz1 hz2 rfl (by decide) (.slice a6 (2 + out2.length) c6) (2 + out2.length) _ rfl OWN6.out ⟨w2.heap.size + 1, 0, none⟩ 4 4 ((sum4 data).map fun x : Nat => .int .u8 (x : Int)) rfl rfl ?hnews ?hone ?h63 ?hby ?hbs ?_)
    case hnews =>
      intro j u hu
      rw [addr_add, cell_blk hsum6.out]
      simpa [sum4] using hu
    case hone => intro u hu; simp at hu; obtain ⟨x, _, rfl⟩ := hu; rfl
    case h63 => have := HP.out.2.2.1; unfold maxLen; omega
    case hby => have := HP.out.2.2.1; omega
    case hbs => omega
    intro v7 w7 own7 hg7 _
    have B7 := B6.out.trans (show Below w.heap.size w6 w7 from ⟨hg7.os, hg7.tape, hg7.output, hg7.size, fun k hk => hg7.block k (by omega) (own_far' OWN6.out hk)⟩)
    clear hg7
    go_wp2
    go_ret
    refine ⟨v7, out2, rfl, ?_, B7, HP.out⟩
    unfold flOut
    rw [List.map_append, List.map_append, List.length_append, List.length_append]
    exact own7
  · have hc' : ¬ (out2.length : Int) < out1.length := by omega
    have HP := hide (And.intro hP1.out (And.intro (show 2 ≤ out1.length from hlow) (And.intro (show out1.length ≤ data.length + 30 by have := HL2.out; omega) (And.intro hq1.out (show FewOk data out1 from ⟨by have := HL2.out; omega, fun ha => by have := HL1.out; have := HALI.out ha; omega⟩)))))
    have O := O1
    clear O1 O2 HL1 HL2 HB2 hP1 hq1 hlow hn HALI
    obtain ⟨g, hag, hg⟩ : ∃ g, a1 = some ⟨g, 0, none⟩ ∧ w.heap.size ≤ g := by
      obtain ⟨g, c, hav, hg⟩ := own_form O.out (by have := HP.out.2.1; omega)
      cases hav
      exact ⟨g, rfl, hg⟩
    subst hag
    have hgl := (O.out.lt g rfl).2
    go_wp2_with fail
    refine (sum_ok ao cap data (B := B) (by omega) HD2.out (by omega) BYT.out).mono ?_
    rintro e w3 ⟨rfl, o3, rfl⟩
    unfold sumVal
    have hO3 := hide (((O.out.alloc o3).alloc (.cells #[.int .u8 ((sumAB data).2 / 256 : Nat), .int .u8 ((sumAB data).2 % 256 : Nat), .int .u8 ((sumAB data).1 / 256 : Nat), .int .u8 ((sumAB data).1 % 256 : Nat)] 153)).alloc (.cells #[.int .u8 120, .int .u8 156] 5))
    have hb5 := hide (((B2.out.alloc hs2 o3).alloc (by simp; omega) (.cells #[.int .u8 ((sumAB data).2 / 256 : Nat), .int .u8 ((sumAB data).2 % 256 : Nat), .int .u8 ((sumAB data).1 / 256 : Nat), .int .u8 ((sumAB data).1 % 256 : Nat)] 153)).alloc (by simp; omega) (.cells #[.int .u8 120, .int .u8 156] 5))
    have hN := hide (own_new (w := (w2.alloc o3).alloc (.cells #[.int .u8 ((sumAB data).2 / 256 : Nat), .int .u8 ((sumAB data).2 % 256 : Nat), .int .u8 ((sumAB data).1 / 256 : Nat), .int .u8 ((sumAB data).1 % 256 : Nat)] 153)) (B := w.heap.size) (by simp; omega) [120, 156] (by simp))
    have hS4 := hide (blk_alloc (.cells #[.int .u8 120, .int .u8 156] 5) (blk_new (w2.alloc o3) (.cells #[.int .u8 ((sumAB data).2 / 256 : Nat), .int .u8 ((sumAB data).2 % 256 : Nat), .int .u8 ((sumAB data).1 / 256 : Nat), .int .u8 ((sumAB data).1 % 256 : Nat)] 153)))
    have tok : True := trivial
    go_wp2_with (at_builtin; have _t := tok; refine wpList_append_own _ rfl (.tmp 19) (.tmp 20) 23 rfl w.heap.size 5 i0 (.int .u8 0) 1 1 Tryz.underlying23 hi hz0 hz1 hz2 rfl (by decide) (.slice (some ⟨w2.heap.size + 1 + 1, 0, none⟩) 2 2) 2 ([120, 156].map fun x : Nat => .int .u8 (x : Int)) rfl ?hown ⟨g, 0, none⟩ out1.length c1 (out1.map fun x : Nat => .int .u8 (x : Int)) rfl (by simp) ?hnews ?hone ?h63 ?hby ?hbs ?_; clear tok)
    case hown => simpa using hN.out
    case hnews => exact hO3.out.cells (g := g) rfl
    case hone => intro u hu; simp at hu; obtain ⟨x, _, rfl⟩ := hu; rfl
    case h63 => have := HP.out.2.2.1; unfold maxLen; omega
    case hby => have := HP.out.2.2.1; omega
    case hbs => simp; omega
    intro v1 w6 own6 hg6 _
    have hsum6 := hide (show w6.heap[w2.heap.size + 1]? = some (.cells #[.int .u8 ((sumAB data).2 / 256 : Nat), .int .u8 ((sumAB data).2 % 256 : Nat), .int .u8 ((sumAB data).1 / 256 : Nat), .int .u8 ((sumAB data).1 % 256 : Nat)] 153 (0, 0)) by
      rw [hg6.block _ (by simp) (by simp [Value.ownBlock])]; simpa using hS4.out)
    have B6 := hide (show Below w.heap.size w w6 from hb5.out.trans ⟨hg6.os, hg6.tape, hg6.output, hg6.size, fun k hk => hg6.block k (by simp; omega) (by simp [Value.ownBlock]; omega)⟩)
    have OWN6 := hide own6
    obtain ⟨a6, c6, rfl⟩ := own_slice own6
    clear own6 hg6 hb5 hN hS4 hO3 O B2 HD2
    have hs6 := B6.out.size
    have hsl := lt_of_block hsum6.out
    go_wp2_with (at_builtin; refine wpList_append_own _ rfl (.tmp 22) (.tmp 23) 23 rfl w.heap.size 5 i0 (.int .u8 0) 1 1 Tryz.underlying23 hi hz0 hz1 hz2 rfl (by decide) (.slice a6 (2 + out1.length) c6) (2 + out1.length) _ rfl OWN6.out ⟨w2.heap.size + 1, 0, none⟩ 4 4 ((sum4 data).map fun x : Nat => .int .u8 (x : Int)) rfl rfl ?hnews ?hone ?h63 ?hby ?hbs ?_)
    case hnews =>
      intro j u hu
      rw [addr_add, cell_blk hsum6.out]
      simpa [sum4] using hu
    case hone => intro u hu; simp at hu; obtain ⟨x, _, rfl⟩ := hu; rfl
    case h63 => have := HP.out.2.2.1; unfold maxLen; omega
    case hby => have := HP.out.2.2.1; omega
    case hbs => omega
    intro v7 w7 own7 hg7 _
    have B7 := B6.out.trans (show Below w.heap.size w6 w7 from ⟨hg7.os, hg7.tape, hg7.output, hg7.size, fun k hk => hg7.block k (by omega) (own_far' OWN6.out hk)⟩)
    clear hg7
    go_wp2
    go_ret
    refine ⟨v7, out1, rfl, ?_, B7, HP.out⟩
    unfold flOut
    rw [List.map_append, List.map_append, List.length_append, List.length_append]
    exact own7
end Go.Proofs.YtgkljcmjnphpeaaGreatDoor
namespace Go.Proofs.YtgkljcmjnphpeaaGreatDoor
open Go.RowKit
variable {w : World} {B cap n : Nat} {data : List Nat} {ao : Option Addr}
/-- What filter 4 answers, of all bytes that may be packed. -/
def Enc4A (w : World) (data : List Nat) (v : Value) (w' : World) : Prop :=
  ∃ bl, w'.ownsRow w.heap.size 5 1 v (flOut data bl).length ((flOut data bl).map fun x : Nat => .int .u8 (x : Int)) ∧ Below w.heap.size w w' ∧ PackedTo data bl ∧ 2 ≤ bl.length ∧ bl.length ≤ data.length + 30 ∧ (∀ x ∈ bl, x < 256) ∧ FewOk data bl
theorem encode4_all (hd : Dat w B ao data) (hB : B ≤ w.heap.size) (byt : ∀ i, i < data.length → nth data i < 256) (len : data.length ≤ 200000) (lc : data.length ≤ cap ∧ cap ≤ 9223372036854775807) (hn : ao = none → cap = 0) :
    Calls Tryz.prog 33 #[.int .i64 4, .slice ao data.length cap] w fun e w' => ∃ v, e = .returned (.tuple #[v, .int .i64 0]) ∧ Enc4A w data v w' := by
  refine face_encode 4 (by omega) (by omega) (fenc4 ?_)
  refine (encodeFlate_all hd hB byt len lc hn).mono ?_
  rintro e w' ⟨v, bl, rfl, h⟩
  exact ⟨v, rfl, bl, h⟩
end Go.Proofs.YtgkljcmjnphpeaaGreatDoor
