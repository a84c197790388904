/- coded: one block of the fixed codes. -/
import Derived.Test.YtgkljcmjnphpeaaGreatDoorK01
import Derived.Test.YtgkljcmjnphpeaaGreatDoorK30
import Derived.Test.YtgkljcmjnphpeaaGreatDoorK00
import Derived.MapKept
import Derived.Test.YtgkljcmjnphpeaaGreatDoorK29
import Derived.Laws.AppendOwnNone
set_option linter.unusedVariables false
set_option linter.unusedSimpArgs false
namespace Go.Proofs.YtgkljcmjnphpeaaGreatDoor
open Go.RowKit
def key3 (a b c : Nat) : Value := .agg #[.int .u8 (a : Int), .int .u8 (b : Int), .int .u8 (c : Int)]
theorem key3_inj {a b c a' b' c' : Nat} (h : key3 a b c = key3 a' b' c') : a = a' ∧ b = b' ∧ c = c' := by
  simp [key3] at h; omega
theorem run_eq3 (a0 a1 a2 b0 b1 b2 : Nat) (h0 : a0 < 256) (h1 : a1 < 256) (h2 : a2 < 256) (k0 : b0 < 256) (k1 : b1 < 256) (k2 : b2 < 256) (W : World) :
    (Op.equal 281 (key3 a0 a1 a2) (key3 b0 b1 b2)).run Tryz.prog W = .ok (decide ([a0, a1, a2] = [b0, b1, b2])) W := by
  have h := run_equalIn_bytes (P := Tryz.prog) W 9998 281 5 3 Tryz.underlying281 Tryz.underlying5 size_byte [UInt8.ofNat a0, UInt8.ofNat a1, UInt8.ofNat a2] [UInt8.ofNat b0, UInt8.ofNat b1, UInt8.ofNat b2] rfl rfl
  have e : ∀ n : Nat, n < 256 → (UInt8.ofNat n).toNat = n := fun n hn => by simp [Nat.mod_eq_of_lt hn]
  have inj : ∀ m n : Nat, m < 256 → n < 256 → (UInt8.ofNat m = UInt8.ofNat n ↔ m = n) := fun m n hm hn => ⟨fun h => by rw [← e m hm, ← e n hn, h], fun h => by rw [h]⟩
  have hb : ([UInt8.ofNat a0, UInt8.ofNat a1, UInt8.ofNat a2] == [UInt8.ofNat b0, UInt8.ofNat b1, UInt8.ofNat b2]) = decide ([a0, a1, a2] = [b0, b1, b2]) := by
    rw [Bool.eq_iff_iff, beq_iff_eq, decide_eq_true_iff]
    simp only [List.cons.injEq, and_true, inj a0 b0 h0 k0, inj a1 b1 h1 k1, inj a2 b2 h2 k2]
  rw [hb] at h
  simp only [List.map_cons, List.map_nil, Extern.Stop.cell, e _ h0, e _ h1, e _ h2, e _ k0, e _ k1, e _ k2] at h
  rw [show (9998 + 2 : Nat) = 10000 from rfl] at h
  exact h
theorem run_check3 (em : Bool) (a b c : Nat) (W : World) : (Instr.checkKey em 10000 281 (key3 a b c)).run Tryz.prog W = .ok () W := by
  cases em <;> kernel_rfl
theorem run_stays3 (a b c : Nat) (W : World) : (Instr.keyThatStays (key3 a b c) (key3 a b c)).run Tryz.prog W = .ok (key3 a b c) W := by
  have h : Instr.sameBits 10000 (key3 a b c) (key3 a b c) = true := by
    simp [Instr.sameBits, key3]
  unfold Instr.keyThatStays
  rw [if_pos h]; rfl
/-- All keys of a map are three bytes. -/
def Keys3 (es : List MapEntry) : Prop := ∀ e ∈ es, ∃ a b c, a < 256 ∧ b < 256 ∧ c < 256 ∧ e.key = key3 a b c
theorem run_asking (a b c : Nat) (ha : a < 256) (hb : b < 256) (hc : c < 256) (W : World) : ∀ (es : List MapEntry) (i : Nat), Keys3 es →
    ((Instr.findAsking 281 (key3 a b c) es i).run Tryz.prog W = .ok none W ∧ ∀ e ∈ es, e.key ≠ key3 a b c) ∨ ∃ j e, (Instr.findAsking 281 (key3 a b c) es i).run Tryz.prog W = .ok (some (i + j, e.val)) W ∧ es[j]? = some e ∧ e.key = key3 a b c
  | [], i, _ => Or.inl ⟨rfl, by simp⟩
  | e :: es, i, h => by
    obtain ⟨a', b', c', ha', hb', hc', hk⟩ := h e (by simp)
    have hq := run_eq3 a b c a' b' c' ha hb hc ha' hb' hc' W
    by_cases hd : [a, b, c] = [a', b', c']
    · rw [decide_eq_true hd] at hq
      refine Or.inr ⟨0, e, ?_, rfl, ?_⟩
      · simp [Instr.findAsking, hk, hq, Result.andThen]
      · rw [hk]; simp at hd; obtain ⟨rfl, rfl, rfl⟩ := hd; rfl
    · rw [decide_eq_false hd] at hq
      have hs : (Instr.findAsking 281 (key3 a b c) (e :: es) i).run Tryz.prog W = (Instr.findAsking 281 (key3 a b c) es (i + 1)).run Tryz.prog W := by
        simp [Instr.findAsking, hk, hq, Result.andThen]
      rw [hs]
      rcases run_asking a b c ha hb hc W es (i + 1) (fun x hx => h x (List.mem_cons_of_mem _ hx)) with h1 | ⟨j, x, h1, h2, h3⟩
      · refine Or.inl ⟨h1.1, fun x hx => ?_⟩
        rcases List.mem_cons.1 hx with rfl | hx
        · intro he
          obtain ⟨k1, k2, k3⟩ := key3_inj (hk.symm.trans he)
          exact hd (by rw [k1, k2, k3])
        · exact h1.2 x hx
      · exact Or.inr ⟨j + 1, x, by rw [h1, show i + 1 + j = i + (j + 1) by omega], by simpa using h2, h3⟩
theorem run_find3 (a b c : Nat) (ha : a < 256) (hb : b < 256) (hc : c < 256) (W : World) (es : List MapEntry) (h : Keys3 es) :
    ((Instr.findKey 281 (key3 a b c) es).run Tryz.prog W = .ok none W ∧ ∀ e ∈ es, e.key ≠ key3 a b c) ∨ ∃ j e, (Instr.findKey 281 (key3 a b c) es).run Tryz.prog W = .ok (some (j, e.val)) W ∧ es[j]? = some e ∧ e.key = key3 a b c := by
  have hu : (underlying 281).run Tryz.prog W = .ok (.array 3 5) W := by kernel_rfl
  cases es with
  | nil => refine Or.inl ⟨?_, by simp⟩; simp [Instr.findKey, hu, Instr.findNow, Result.andThen]
  | cons e es =>
    have hn : Instr.findNow (.array 3 5) (key3 a b c) (e :: es) 0 = none := by
      obtain ⟨a', b', c', _, _, _, hk⟩ := h e (by simp)
      simp [Instr.findNow, hk, key3, Instr.sameNow]
    have he : (Instr.findKey 281 (key3 a b c) (e :: es)).run Tryz.prog W = (Instr.findAsking 281 (key3 a b c) (e :: es)).run Tryz.prog W := by
      simp [Instr.findKey, hu, hn, Result.andThen]
    rw [he]
    rcases run_asking a b c ha hb hc W (e :: es) 0 h with h1 | ⟨j, x, h1, h2, h3⟩
    · exact Or.inl h1
    · exact Or.inr ⟨j, x, by rw [h1, Nat.zero_add], h2, h3⟩
end Go.Proofs.YtgkljcmjnphpeaaGreatDoor
namespace Go.Proofs.YtgkljcmjnphpeaaGreatDoor
open Go.RowKit
variable {w : World}
/-- All bytes are the same. -/
def Alike (data : List Nat) : Prop := ∀ i, i < data.length → nth data i = nth data 0
/-- Of bytes that are all the same the map has but one key, and it stood last. -/
def OneKey (es : List MapEntry) (data : List Nat) (at_ : Nat) : Prop :=
  Alike data → es.length ≤ 1 ∧ ∀ p, p + 1 = at_ → p + 3 ≤ data.length → ∃ e, es = [e] ∧ e.val = .int .i64 (p : Int)
/-- Where bytes stood: each key that the map has stands at its place, ahead of at. -/
def Stood (w : World) (bm : Nat) (data : List Nat) (at_ : Nat) : Prop :=
  ∃ es clock, w.heap[bm]? = some (.map es clock) ∧ (∀ e ∈ es.toList, ∃ p : Nat, e.val = .int .i64 (p : Int) ∧ p < at_ ∧ p + 3 ≤ data.length ∧ e.key = key3 (nth data p) (nth data (p + 1)) (nth data (p + 2))) ∧ OneKey es.toList data at_
theorem Stood.keys {es : List MapEntry} {data : List Nat} {at_ : Nat} (hb : ∀ i, i < data.length → nth data i < 256)
    (h : ∀ e ∈ es, ∃ p : Nat, e.val = .int .i64 (p : Int) ∧ p < at_ ∧ p + 3 ≤ data.length ∧ e.key = key3 (nth data p) (nth data (p + 1)) (nth data (p + 2))) : Keys3 es := by
  intro e he
  obtain ⟨p, _, _, h3, h4⟩ := h e he
  exact ⟨_, _, _, hb _ (by omega), hb _ (by omega), hb _ (by omega), h4⟩
theorem Stood.put {bm at_ : Nat} {data : List Nat} (h : Stood w bm data at_) (hb : ∀ i, i < data.length → nth data i < 256) (hq : at_ + 3 ≤ data.length) :
    ∃ es, (Instr.mapUpdate 191 (.map (some bm)) (key3 (nth data at_) (nth data (at_ + 1)) (nth data (at_ + 2))) (.int .i64 (at_ : Int))).run Tryz.prog w = .ok () { w with heap := w.heap.setIfInBounds bm es } ∧
      Stood { w with heap := w.heap.setIfInBounds bm es } bm data (at_ + 1) := by
  obtain ⟨es, clock, h1, h2, h5⟩ := h
  have hlt := lt_of_block h1
  have hu : (underlying 191).run Tryz.prog w = .ok (.map 281 3) w := by kernel_rfl
  rcases run_find3 (nth data at_) (nth data (at_ + 1)) (nth data (at_ + 2)) (hb _ (by omega)) (hb _ (by omega)) (hb _ (by omega)) w es.toList (Stood.keys hb h2) with hf | ⟨j, e, hf, he, hk⟩
  · refine ⟨.map (es.push ⟨key3 (nth data at_) (nth data (at_ + 1)) (nth data (at_ + 2)), .int .i64 (at_ : Int), clock⟩) (clock + 1), ?_, ?_⟩
    · simp [Instr.mapUpdate, hu, MapKept.run_getObj_map h1, run_check3, hf.1, MapKept.run_setObj_map _ h1, Result.andThen]
    · refine ⟨_, _, Array.getElem?_setIfInBounds_self_of_lt hlt, ?_, fun ha => ?_⟩
      rotate_left
      · have he : es.toList = [] := by
          cases hes : es.toList with
          | nil => rfl
          | cons x l =>
            obtain ⟨p, p1, p2, p3, p4⟩ := h2 x (by rw [hes]; simp)
            refine absurd ?_ (hf.2 x (by rw [hes]; simp))
            rw [p4, ha p (by omega), ha (p + 1) (by omega), ha (p + 2) (by omega), ha at_ (by omega), ha (at_ + 1) (by omega), ha (at_ + 2) (by omega)]
        rw [Array.toList_push, he]
        refine ⟨by simp, fun p hp _ => ⟨_, rfl, ?_⟩⟩
        obtain rfl : p = at_ := by omega
        rfl
      intro x hx
      simp only [Array.toList_push, List.mem_append, List.mem_singleton] at hx
      rcases hx with hx | rfl
      · obtain ⟨p, p1, p2, p3, p4⟩ := h2 x hx
        exact ⟨p, p1, by omega, p3, p4⟩
      · exact ⟨at_, rfl, by omega, hq, rfl⟩
  · have hj : es[j]? = some e := by simpa using he
    refine ⟨.map (es.modify j fun e => { e with key := key3 (nth data at_) (nth data (at_ + 1)) (nth data (at_ + 2)), val := .int .i64 (at_ : Int) }) clock, ?_, ?_⟩
    · simp [Instr.mapUpdate, hu, MapKept.run_getObj_map h1, run_check3, hf, hj, hk, run_stays3, MapKept.run_setObj_map _ h1, Result.andThen]
    · refine ⟨_, _, Array.getElem?_setIfInBounds_self_of_lt hlt, ?_, fun ha => ?_⟩
      rotate_left
      · have hjl : j < es.size := (Array.getElem?_eq_some_iff.1 hj).1
        have hl1 : es.size ≤ 1 := by have := (h5 ha).1; simpa using this
        obtain rfl : j = 0 := by omega
        have hs1 : es.size = 1 := by omega
        obtain ⟨x, hx⟩ : ∃ x, es.toList = [x] := List.length_eq_one_iff.1 (by simpa using hs1)
        obtain rfl : es = #[x] := by rw [← hx]
        refine ⟨by simp, fun p hp _ => ⟨_, by simp [Array.modify, Array.modifyM]; rfl, ?_⟩⟩
        obtain rfl : p = at_ := by omega
        rfl
      intro x hx
      rcases MapFrom.mem_modify hx with hx | ⟨e', _, rfl⟩
      · obtain ⟨p, p1, p2, p3, p4⟩ := h2 x hx
        exact ⟨p, p1, by omega, p3, p4⟩
      · exact ⟨at_, rfl, by omega, hq, rfl⟩
/-- A deflater in memory. -/
structure De (B bw bm g1 g2 cap : Nat) (data : List Nat) (ao : Option Addr) (w : World) (bs : List Bool) (at_ : Nat) : Prop where
  wx : Wx B bw 194 [.slice ao data.length cap, .int .i64 at_, .map (some bm), .slice (some ⟨g1, 0, none⟩) 288 288, .slice (some ⟨g2, 0, none⟩) 32 32] w bs
  dat : Dat w B ao data
  byt : ∀ i, i < data.length → nth data i < 256
  len : data.length ≤ 1000000
  lc : data.length ≤ cap ∧ cap ≤ 9223372036854775807
  hat : at_ ≤ data.length
  st : Stood w bm data at_
  r1 : CodeRow w g1 Fo.tabF
  r2 : CodeRow w g2 Fo.tadF
  hbm : B ≤ bm
variable {B bw bm g1 g2 cap T : Nat} {data : List Nat} {ao : Option Addr} {bs : List Bool} {at_ : Nat} {rest : List Value}
theorem Wx.below {w' : World} (h : Wx B bw T rest w bs) (b : Below w.heap.size w w') : Wx B bw T rest w' bs := by
  obtain ⟨ov, out, used, ⟨h1, h2, h3, h4⟩, h5⟩ := h
  exact ⟨ov, out, used, ⟨h1, h2, by rw [b.block _ (lt_of_block h3)]; exact h3, own_below h4 b⟩, h5⟩
theorem Stood.below {w' : World} (h : Stood w bm data at_) (b : Below w.heap.size w w') : Stood w' bm data at_ := by
  obtain ⟨es, clock, h1, h2⟩ := h
  exact ⟨es, clock, by rw [b.block _ (lt_of_block h1)]; exact h1, h2⟩
theorem CodeRow.below' {w' : World} {g : Nat} {t : List (Nat × Nat)} (h : CodeRow w g t) (b : Below w.heap.size w w') : CodeRow w' g t := by
  obtain ⟨C, h1, h2⟩ := h
  exact ⟨C, by rw [b.block _ (lt_of_block h1)]; exact h1, h2⟩
theorem De.below {w' : World} (h : De B bw bm g1 g2 cap data ao w bs at_) (b : Below w.heap.size w w') : De B bw bm g1 g2 cap data ao w' bs at_ :=
  ⟨h.wx.below b, h.dat.below b, h.byt, h.len, h.lc, h.hat, h.st.below b, h.r1.below' b, h.r2.below' b, h.hbm⟩
theorem De.cells (h : De B bw bm g1 g2 cap data ao w bs at_) : w.cell? ⟨bw, 2, none⟩ = some (.slice ao data.length cap) ∧ w.cell? ⟨bw, 3, none⟩ = some (.int .i64 at_) ∧ w.cell? ⟨bw, 4, none⟩ = some (.map (some bm)) ∧ w.cell? ⟨bw, 5, none⟩ = some (.slice (some ⟨g1, 0, none⟩) 288 288) ∧ w.cell? ⟨bw, 6, none⟩ = some (.slice (some ⟨g2, 0, none⟩) 32 32) ∧ B ≤ bw ∧ bw < w.heap.size ∧ w.frozen? ⟨bw, 3, none⟩ = false := by
  obtain ⟨ov, out, used, hq, _⟩ := h.wx
  have := hq.blk
  refine ⟨?_, ?_, ?_, ?_, ?_, hq.hb, lt_of_block hq.blk, free_blk hq.blk⟩ <;> (rw [cell_blk this]; simp)
theorem Dat.at {l : List Nat} (h : Dat w B ao l) (h0 : 0 < l.length) : ∃ b o, ao = some ⟨b, o, none⟩ ∧ b < B ∧ ∀ i, i < l.length → w.cell? ⟨b, o + i, none⟩ = some (.int .u8 (nth l i : Nat)) := by
  obtain ⟨b, o, h1, h2, _⟩ := h 0 h0
  refine ⟨b, o, h1, h2, fun i hi => ?_⟩
  obtain ⟨b', o', h1', _, h3⟩ := h i hi
  rw [h1] at h1'
  cases h1'
  exact h3
end Go.Proofs.YtgkljcmjnphpeaaGreatDoor
namespace Go.Proofs.YtgkljcmjnphpeaaGreatDoor
open Go.RowKit
variable {w : World} {B bw bm g1 g2 cap T : Nat} {data : List Nat} {ao : Option Addr} {bs : List Bool} {at_ : Nat} {rest : List Value}
theorem below_drewN {B : Nat} {a w : World} (h : Below B a w) (n : Nat) : Below B a (w.drewN n) := ⟨h.os, h.tape, h.output, h.size, h.block⟩
end Go.Proofs.YtgkljcmjnphpeaaGreatDoor
namespace Go.Proofs.YtgkljcmjnphpeaaGreatDoor
open Go.RowKit
variable {w : World} {B cap : Nat} {ao : Option Addr}
namespace Fo
/-- How many bytes at the beginning are like the first, as far as one run goes. -/
def sameGo (l : List Nat) : Nat → Nat → Nat
  | 0, n => n
  | f + 1, n => if n < l.length ∧ n < 128 ∧ nth l n = nth l 0 then sameGo l f (n + 1) else n
def sameN (l : List Nat) : Nat := sameGo l 128 1
/-- How many bytes there are ahead of the first two that are the same. -/
def mixGo (l : List Nat) : Nat → Nat → Nat
  | 0, n => n
  | f + 1, n => if n < l.length ∧ n < 128 ∧ ¬ (n + 1 < l.length ∧ nth l n = nth l (n + 1)) then mixGo l f (n + 1) else n
def mixN (l : List Nat) : Nat := mixGo l 129 0
def runGo : Nat → List Nat → List Nat
  | 0, _ => [128]
  | f + 1, l => if l.length = 0 then [128] else if 1 < sameN l then (257 - sameN l) :: nth l 0 :: runGo f (l.drop (sameN l)) else (mixN l - 1) :: (l.take (mixN l) ++ runGo f (l.drop (mixN l)))
def encRun (l : List Nat) : List Nat := runGo (l.length + 1) l
theorem encRun_aab : encRun [97, 97, 98] = [255, 97, 0, 98, 128] := by decide +kernel
theorem sameGo_le (l : List Nat) : ∀ f n, n ≤ 128 → n ≤ l.length → n ≤ sameGo l f n ∧ sameGo l f n ≤ 128 ∧ sameGo l f n ≤ l.length
  | 0, n, h1, h2 => ⟨Nat.le_refl _, h1, h2⟩
  | f + 1, n, h1, h2 => by
    unfold sameGo
    split
    · rename_i c
      have := sameGo_le l f (n + 1) (by omega) (by omega)
      omega
    · exact ⟨Nat.le_refl _, h1, h2⟩
theorem mixGo_le (l : List Nat) : ∀ f n, n ≤ 128 → n ≤ l.length → n ≤ mixGo l f n ∧ mixGo l f n ≤ 128 ∧ mixGo l f n ≤ l.length
  | 0, n, h1, h2 => ⟨Nat.le_refl _, h1, h2⟩
  | f + 1, n, h1, h2 => by
    unfold mixGo
    split
    · rename_i c
      have := mixGo_le l f (n + 1) (by omega) (by omega)
      omega
    · exact ⟨Nat.le_refl _, h1, h2⟩
theorem sameN_le (l : List Nat) (h : 0 < l.length) : 1 ≤ sameN l ∧ sameN l ≤ 128 ∧ sameN l ≤ l.length := sameGo_le l 128 1 (by omega) h
theorem mixN_le (l : List Nat) (h : 0 < l.length) (hs : ¬ 1 < sameN l) : 1 ≤ mixN l ∧ mixN l ≤ 128 ∧ mixN l ≤ l.length := by
  have h1 : ¬ (0 + 1 < l.length ∧ nth l 0 = nth l (0 + 1)) := by
    rintro ⟨a, b⟩
    apply hs
    unfold sameN
    rw [sameGo, if_pos ⟨by omega, by omega, b.symm⟩]
    have := sameGo_le l 127 (1 + 1) (by omega) (by omega)
    omega
  unfold mixN
  rw [mixGo, if_pos ⟨h, by omega, h1⟩]
  have := mixGo_le l 128 (0 + 1) (by omega) (by omega)
  omega
end Fo
def pairOf (l : List Nat) (n : Nat) : Prop := n + 1 < l.length ∧ nth l n = nth l (n + 1)
theorem pairAt_yes {l : List Nat} (hd : Dat w B ao l) (hl : l.length ≤ 1000000) (n : Nat) (hp : pairOf l n) :
    Calls Tryz.prog 201 #[.slice ao l.length cap, .int .i64 n] w fun e w' => e = .returned (.bool true) ∧ ∃ q, w' = w.drewN q := by
  obtain ⟨h1, h2⟩ := hp
  obtain ⟨b, o, rfl, _, hc⟩ := hd.at (by omega)
  have d1 := hc n (by omega)
  have d2 := hc (n + 1) h1
  rw [h2] at d1
  have t1 : decide ((n : Int) + 1 < l.length) = true := by simp; omega
  generalize nth l (n + 1) = X at *
  clear hc hd h2
  go_enter Tryz.func201, Tryz.ntmps201
  go_wp2_with fail
  go_quiet (fail)
  go_wp2
  go_ret
  exact ⟨rfl, nq, rfl⟩
theorem pairAt_no {l : List Nat} (hd : Dat w B ao l) (hl : l.length ≤ 1000000) (n : Nat) (hn : n < l.length) (hp : ¬ pairOf l n) :
    Calls Tryz.prog 201 #[.slice ao l.length cap, .int .i64 n] w fun e w' => e = .returned (.bool false) ∧ ∃ q, w' = w.drewN q := by
  by_cases h1 : n + 1 < l.length
  · have h2 : nth l n ≠ nth l (n + 1) := fun e => hp ⟨h1, e⟩
    obtain ⟨b, o, rfl, _, hc⟩ := hd.at (by omega)
    have d1 := hc n (by omega)
    have d2 := hc (n + 1) h1
    have t1 : decide ((n : Int) + 1 < l.length) = true := by simp; omega
    have t2 : ((nth l n : Int) == (nth l (n + 1) : Int)) = false := by simp; omega
    generalize nth l (n + 1) = X at *
    generalize nth l n = Y at *
    clear hc hd h2 hp
    go_enter Tryz.func201, Tryz.ntmps201
    go_wp2_with fail
    go_quiet (fail)
    go_wp2
    go_ret
    exact ⟨rfl, nq, rfl⟩
  · have t1 : decide ((n : Int) + 1 < l.length) = false := by simp; omega
    go_enter Tryz.func201, Tryz.ntmps201
    go_wp2_with fail
    go_quiet (fail)
    go_wp2
    go_ret
    exact ⟨rfl, nq, rfl⟩
end Go.Proofs.YtgkljcmjnphpeaaGreatDoor
namespace Go.Proofs.YtgkljcmjnphpeaaGreatDoor
open Go.RowKit
variable {w : World} {B cap : Nat} {ao : Option Addr}
theorem sameGo_on {l : List Nat} {k : Nat} (hk : k ≤ 128) (h : k < l.length ∧ k < 128 ∧ nth l k = nth l 0) : Fo.sameGo l (129 - k) k = Fo.sameGo l (129 - (k + 1)) (k + 1) := by
  rw [show 129 - k = (129 - (k + 1)) + 1 by omega, Fo.sameGo, if_pos h]
theorem sameGo_off {l : List Nat} {k : Nat} (hk : k ≤ 128) (h : ¬ (k < l.length ∧ k < 128 ∧ nth l k = nth l 0)) : Fo.sameGo l (129 - k) k = k := by
  rw [show 129 - k = (128 - k) + 1 by omega, Fo.sameGo, if_neg h]
theorem mixGo_on {l : List Nat} {k : Nat} (hk : k ≤ 128) (h : k < l.length ∧ k < 128 ∧ ¬ pairOf l k) : Fo.mixGo l (129 - k) k = Fo.mixGo l (129 - (k + 1)) (k + 1) := by
  unfold pairOf at h
  rw [show 129 - k = (129 - (k + 1)) + 1 by omega, Fo.mixGo, if_pos h]
theorem mixGo_off {l : List Nat} {k : Nat} (hk : k ≤ 128) (h : ¬ (k < l.length ∧ k < 128 ∧ ¬ pairOf l k)) : Fo.mixGo l (129 - k) k = k := by
  unfold pairOf at h
  rw [show 129 - k = (128 - k) + 1 by omega, Fo.mixGo, if_neg h]
set_option maxRecDepth 100000 in
set_option maxHeartbeats 1000000 in
theorem sameAhead_ok {l : List Nat} (hd : Dat w B ao l) (hl : l.length ≤ 1000000) (hB : B ≤ w.heap.size) (h0 : 0 < l.length) :
    Calls Tryz.prog 145 #[.slice ao l.length cap] w fun e w' => e = .returned (.int .i64 (Fo.sameN l : Nat)) ∧ Below w.heap.size w w' := by
  have HR : Hid (Fo.sameGo l (129 - 1) 1 = Fo.sameN l) := hide rfl
  generalize Fo.sameN l = R at *
  obtain ⟨b, o, rfl, hbB, hc⟩ := hd.at h0
  have HC := hide hc
  clear hc hd
  go_enter Tryz.func145, Tryz.ntmps145
  go_wp2
  go_loopw [3] (fun n wr => ∃ k : Nat, 1 ≤ k ∧ k ≤ 128 ∧ k ≤ l.length ∧ n = .int .i64 k ∧ Hid (Fo.sameGo l (129 - k) k = R) ∧ Below w.heap.size w wr) (fun n _ => 128 - (intOf n).toNat)
  case atStart => exact ⟨1, by omega, by omega, h0, rfl, HR, Below.refl _ _⟩
  clear HR
  case round =>
    obtain ⟨k, k1, k2, k3, rfl, HK, bl⟩ := hrel
    by_cases t1 : k < l.length
    · have t1' : decide ((k : Int) < l.length) = true := by simp; omega
      by_cases t2 : k < 128
      · have t2' : decide ((k : Int) < 128) = true := by simp; omega
        have d1 := (bl.cell (p := ⟨b, o + k, none⟩) (by show b < _; omega)).trans (HC.out k t1)
        have d2 : wr.cell? ⟨b, o, none⟩ = some (.int .u8 (nth l 0 : Nat)) := (bl.cell (p := ⟨b, o, none⟩) (by show b < _; omega)).trans (HC.out 0 h0)
        by_cases t3 : nth l k = nth l 0
        · have HN := hide ((sameGo_on k2 ⟨t1, t2, t3⟩).symm.trans HK.out)
          have t3' : ((nth l k : Int) == (nth l 0 : Int)) = true := by simp [t3]
          generalize nth l k = X at d1 t3'
          generalize nth l 0 = Y at d2 t3'
          clear t3 HK
          go_wp2_with fail
          go_quiet (fail)
          go_wp2
          go_roundw
          case rel => exact ⟨k + 1, by omega, by omega, by omega, by go_num, HN, below_drewN bl _⟩
          case measure => simp [intOf]; omega
        · have HN := hide ((sameGo_off k2 (fun c => t3 c.2.2)).symm.trans HK.out)
          have t3' : ((nth l k : Int) == (nth l 0 : Int)) = false := by simp; omega
          generalize nth l k = X at d1 t3'
          generalize nth l 0 = Y at d2 t3'
          clear t3 HK
          go_wp2_with fail
          go_quiet (fail)
          go_wp2
          go_ret
          exact ⟨ret_int (by rw [HN.out]), below_drewN bl _⟩
      · have HN := hide ((sameGo_off k2 (fun c => t2 c.2.1)).symm.trans HK.out)
        have t2' : decide ((k : Int) < 128) = false := by simp; omega
        clear HK
        go_wp2_with fail
        go_quiet (fail)
        go_wp2
        go_ret
        exact ⟨ret_int (by rw [HN.out]), below_drewN bl _⟩
    · have HN := hide ((sameGo_off k2 (fun c => t1 c.1)).symm.trans HK.out)
      have t1' : decide ((k : Int) < l.length) = false := by simp; omega
      clear HK
      go_wp2_with fail
      go_quiet (fail)
      go_wp2
      go_ret
      exact ⟨ret_int (by rw [HN.out]), below_drewN bl _⟩
set_option maxRecDepth 100000 in
set_option maxHeartbeats 1000000 in
theorem mixedAhead_ok {l : List Nat} (hd : Dat w B ao l) (hl : l.length ≤ 1000000) (hB : B ≤ w.heap.size) :
    Calls Tryz.prog 146 #[.slice ao l.length cap] w fun e w' => e = .returned (.int .i64 (Fo.mixN l : Nat)) ∧ Below w.heap.size w w' := by
  have HR : Hid (Fo.mixGo l (129 - 0) 0 = Fo.mixN l) := hide rfl
  generalize Fo.mixN l = R at *
  have HD := hide hd
  clear hd
  go_enter Tryz.func146, Tryz.ntmps146
  go_wp2
  go_loopw [3] (fun n wr => ∃ k : Nat, k ≤ 128 ∧ k ≤ l.length ∧ n = .int .i64 k ∧ Hid (Fo.mixGo l (129 - k) k = R) ∧ Below w.heap.size w wr) (fun n _ => 128 - (intOf n).toNat)
  case atStart => exact ⟨0, by omega, by omega, rfl, HR, Below.refl _ _⟩
  clear HR
  case round =>
    obtain ⟨k, k2, k3, rfl, HK, bl⟩ := hrel
    have HD2 := hide (HD.out.below bl)
    by_cases t1 : k < l.length
    · have t1' : (k : Int) < l.length := by omega
      by_cases t2 : k < 128
      · have t2' : (k : Int) < 128 := by omega
        by_cases t3 : pairOf l k
        · have HN := hide ((mixGo_off k2 (fun c => c.2.2 t3)).symm.trans HK.out)
          have T3 := hide t3
          clear t3 HK
          go_wp2_with fail
          refine (pairAt_yes HD2.out hl k T3.out).mono ?_
          rintro e w1 ⟨rfl, q, rfl⟩
          go_wp2
          go_ret
          exact ⟨ret_int (by rw [HN.out]), below_drewN bl _⟩
        · have HN := hide ((mixGo_on k2 ⟨t1, t2, t3⟩).symm.trans HK.out)
          have T3 := hide t3
          clear t3 HK
          go_wp2_with fail
          refine (pairAt_no HD2.out hl k t1 T3.out).mono ?_
          rintro e w1 ⟨rfl, q, rfl⟩
          go_wp2
          go_roundw
          case rel => exact ⟨k + 1, by omega, by omega, by go_num, HN, below_drewN bl _⟩
          case measure => simp [intOf]; omega
      · have HN := hide ((mixGo_off k2 (fun c => t2 c.2.1)).symm.trans HK.out)
        have t2' : ¬ (k : Int) < 128 := by omega
        clear HK
        go_wp2
        go_ret
        exact ⟨ret_int (by rw [HN.out]), bl⟩
    · have HN := hide ((mixGo_off k2 (fun c => t1 c.1)).symm.trans HK.out)
      have t1' : ¬ (k : Int) < l.length := by omega
      clear HK
      go_wp2
      go_ret
      exact ⟨ret_int (by rw [HN.out]), bl⟩
end Go.Proofs.YtgkljcmjnphpeaaGreatDoor
namespace Go.Proofs.YtgkljcmjnphpeaaGreatDoor
open Go.RowKit
variable {w w' : World} {B bw bm g1 g2 cap T : Nat} {data : List Nat} {ao : Option Addr} {bs : List Bool} {at_ : Nat} {rest : List Value}
theorem Stood.later {a b : Nat} (h : Stood w bm data a) (hab : a ≤ b) (hn : ¬ b + 2 ≤ data.length) : Stood w bm data b := by
  obtain ⟨es, clock, h1, h2, h5⟩ := h
  refine ⟨es, clock, h1, fun e he => ?_, fun ha => ⟨(h5 ha).1, fun p hp hl => absurd hl (by omega)⟩⟩
  obtain ⟨p, p1, p2, p3⟩ := h2 e he
  exact ⟨p, p1, by omega, p3⟩
theorem Stood.other {a : Nat} (h : Stood w bm data a) (hb : w'.heap[bm]? = w.heap[bm]?) : Stood w' bm data a := by
  obtain ⟨es, clock, h1, h2⟩ := h
  exact ⟨es, clock, hb.trans h1, h2⟩
theorem CodeRow.other {g : Nat} {t : List (Nat × Nat)} (h : CodeRow w g t) (hb : w'.heap[g]? = w.heap[g]?) : CodeRow w' g t := by
  obtain ⟨C, h1, h2⟩ := h
  exact ⟨C, hb.trans h1, h2⟩
theorem Wx.next {a : Value} {x y : Nat} {r : List Value} (h : Wx B bw T (a :: .int .i64 x :: r) w bs) : Wx B bw T (a :: .int .i64 y :: r) (w.setCell ⟨bw, 3, none⟩ (.int .i64 y)) bs := by
  obtain ⟨ov, out, used, ⟨h1, h2, h3, h4⟩, h5⟩ := h
  refine ⟨ov, out, used, ⟨h1, h2, ?_, ?_⟩, h5⟩
  · rw [blk_setCell _ h3]; simp
  · exact ownsRow_setCell_other h4 (own_ne h4 h3 h2) _
theorem Wx.other (h : Wx B bw T rest w bs) (hb : ∀ (k : Nat) (c : Array Value) (t : TypeId) (fz : Nat × Nat), w.heap[k]? = some (Obj.cells c t fz) → w'.heap[k]? = some (Obj.cells c t fz)) : Wx B bw T rest w' bs := by
  obtain ⟨ov, out, used, ⟨h1, h2, h3, h4, h4'⟩, h5⟩ := h
  refine ⟨ov, out, used, ⟨h1, h2, hb _ _ _ _ h3, h4, ?_⟩, h5⟩
  rcases h4' with h4' | ⟨g, c, cur, e1, e2, hh, hc⟩
  · exact Or.inl h4'
  · exact Or.inr ⟨g, c, cur, e1, e2, hb _ _ _ _ hh, hc⟩
theorem De.ne (h : De B bw bm g1 g2 cap data ao w bs at_) : bm ≠ bw ∧ g1 ≠ bw ∧ g2 ≠ bw ∧ bm < w.heap.size := by
  obtain ⟨ov, out, used, ⟨h1, h2, h3, h4⟩, h5⟩ := h.wx
  obtain ⟨es, clock, m1, _⟩ := h.st
  obtain ⟨C1, r1, _⟩ := h.r1
  obtain ⟨C2, r2, _⟩ := h.r2
  refine ⟨fun e => ?_, fun e => ?_, fun e => ?_, lt_of_block m1⟩
  · subst e; rw [m1] at h3; cases h3
  · subst e; rw [r1] at h3; simp at h3
  · subst e; rw [r2] at h3; simp at h3
/-- One byte on, where no key is kept. -/
theorem De.go (h : De B bw bm g1 g2 cap data ao w bs at_) (hlt : at_ < data.length) (hno : ¬ at_ + 3 ≤ data.length) : De B bw bm g1 g2 cap data ao (w.setCell ⟨bw, 3, none⟩ (.int .i64 (at_ + 1 : Nat))) bs (at_ + 1) ∧ Kept 5 B [bw, bm] w (w.setCell ⟨bw, 3, none⟩ (.int .i64 (at_ + 1 : Nat))) := by
  obtain ⟨n1, n2, n3, _⟩ := h.ne
  obtain ⟨_, _, _, _, _, hbw, _⟩ := h.cells
  exact ⟨⟨h.wx.next, h.dat.other (fun k hk => blk_setCell_ne _ (by omega)), h.byt, h.len, h.lc, hlt, (h.st.later (by omega) (by omega)).other (blk_setCell_ne _ n1), h.r1.other (blk_setCell_ne _ n2), h.r2.other (blk_setCell_ne _ n3), h.hbm⟩, (Kept.refl _ _ _ _).setCell (by simp) _⟩
theorem Kept.thenBelow {e B : Nat} {S : List Nat} {a b c : World} (h : Kept e B S a b) (k : Below b.heap.size b c) : Kept e B S a c :=
  h.trans ⟨k.os, k.tape, k.output, k.size, fun i o _ ho _ => by rw [k.block i (lt_of_block ho)]; exact ho⟩
theorem De.drewN (h : De B bw bm g1 g2 cap data ao w bs at_) (n : Nat) : De B bw bm g1 g2 cap data ao (w.drewN n) bs at_ := h.below (below_drewN (Below.refl _ _) n)
end Go.Proofs.YtgkljcmjnphpeaaGreatDoor
namespace Go.Proofs.YtgkljcmjnphpeaaGreatDoor
open Go.RowKit
variable {w : World} {B bw cap T : Nat} {data : List Nat} {ao : Option Addr} {bs : List Bool} {rest : List Value}
theorem Dat.kept {S : List Nat} {w' : World} (h : Dat w B ao data) (k : Kept 5 B S w w') (hS : ∀ x ∈ S, B ≤ x) : Dat w' B ao data := by
  intro i hi
  obtain ⟨b, o, e1, e2, e3⟩ := h i hi
  exact ⟨b, o, e1, e2, k.cell hS e2 e3⟩
end Go.Proofs.YtgkljcmjnphpeaaGreatDoor
namespace Go.Proofs.YtgkljcmjnphpeaaGreatDoor
open Go.RowKit
variable {w : World} {B cap : Nat} {ao : Option Addr} {data : List Nat}
theorem runGo_same {f : Nat} {l : List Nat} (h0 : 0 < l.length) (h : 1 < Fo.sameN l) : Fo.runGo (f + 1) l = (257 - Fo.sameN l) :: nth l 0 :: Fo.runGo f (l.drop (Fo.sameN l)) := by
  rw [Fo.runGo, if_neg (by omega), if_pos h]
theorem runGo_mix {f : Nat} {l : List Nat} (h0 : 0 < l.length) (h : ¬ 1 < Fo.sameN l) : Fo.runGo (f + 1) l = (Fo.mixN l - 1) :: (l.take (Fo.mixN l) ++ Fo.runGo f (l.drop (Fo.mixN l))) := by
  rw [Fo.runGo, if_neg (by omega), if_neg h]
theorem runGo_end {f : Nat} {l : List Nat} (h0 : l.length = 0) : Fo.runGo f l = [128] := by
  cases f with
  | zero => rfl
  | succ f => rw [Fo.runGo, if_pos h0]
def sliceLen : Value → Nat
  | .slice _ n _ => n
  | _ => 0
theorem news1 {w : World} {a : Nat} {x : Int} (ex : x = a) : ∀ j u, ([a].map fun x : Nat => Value.int .u8 (x : Int))[j]? = some u → (w.alloc (.cells #[.int .u8 x] 5)).cell? ((⟨w.heap.size, 0, none⟩ : Addr).add j) = some u := by
  subst ex
  intro j u hu
  match j, hu with
  | 0, hu => rw [addr_add, World.cell?_alloc_new]; exact hu
  | j + 1, hu => simp at hu
theorem news2 {w : World} {a b : Nat} {x y : Int} (ex : x = a) (ey : y = b) : ∀ j u, ([a, b].map fun x : Nat => Value.int .u8 (x : Int))[j]? = some u → (w.alloc (.cells #[.int .u8 x, .int .u8 y] 5)).cell? ((⟨w.heap.size, 0, none⟩ : Addr).add j) = some u := by
  subst ex ey
  intro j u hu
  match j, hu with
  | 0, hu => rw [addr_add, World.cell?_alloc_new]; exact hu
  | 1, hu => rw [addr_add, World.cell?_alloc_new]; exact hu
  | j + 2, hu => simp at hu
/-- What is left of bytes in memory, from a place on. -/
theorem Dat.drop {l : List Nat} {b o : Nat} (h : Dat w B (some ⟨b, o, none⟩) l) (p : Nat) : Dat w B (some ⟨b, o + p, none⟩) (l.drop p) := by
  intro i hi
  rw [List.length_drop] at hi
  obtain ⟨b', o', e1, e2, e3⟩ := h (p + i) (by omega)
  cases e1
  refine ⟨b, o + p, rfl, e2, ?_⟩
  rw [Nat.add_assoc, e3]
  simp [nth, List.getElem?_drop]
theorem Dat.news {l : List Nat} {b o : Nat} (h : Dat w B (some ⟨b, o, none⟩) l) (n : Nat) (hn : n ≤ l.length) : ∀ j u, ((l.take n).map fun x : Nat => Value.int .u8 (x : Int))[j]? = some u → w.cell? ((⟨b, o, none⟩ : Addr).add j) = some u := by
  intro j u hu
  obtain ⟨hj, rfl⟩ := List.getElem?_eq_some_iff.1 hu
  rw [List.length_map, List.length_take] at hj
  obtain ⟨b', o', e1, _, e3⟩ := h j (by omega)
  cases e1
  rw [addr_add2, e3]
  simp [nth, List.getElem?_eq_getElem (show j < l.length by omega)]
set_option maxRecDepth 100000 in
set_option maxHeartbeats 2000000 in
theorem encodeRun_some {b o : Nat} (hd : Dat w B (some ⟨b, o, none⟩) data) (hB : B ≤ w.heap.size) (byt : ∀ i, i < data.length → nth data i < 256) (len : data.length ≤ 200000) (lc : data.length ≤ cap ∧ cap ≤ 9223372036854775807) :
    Calls Tryz.prog 103 #[.slice (some ⟨b, o, none⟩) data.length cap] w fun e w' => ∃ v, e = .returned v ∧ w'.ownsRow B 5 1 v (Fo.encRun data).length ((Fo.encRun data).map fun x : Nat => .int .u8 (x : Int)) ∧ Kept 5 B [] w w' := by
  obtain ⟨i0, hi, hz0, hz1, hz2⟩ := info_parts Tryz.infoByte
  have HR : Hid (Fo.runGo (data.length + 1) (data.drop 0) = Fo.encRun data) := hide rfl
  have HD := hide hd
  have BYT := hide byt
  generalize Fo.encRun data = R at *
  clear hd byt
  go_enter Tryz.func103, Tryz.ntmps103
  go_wp2
  go_loopw [0, 3] (fun d v wr => ∃ (p f : Nat) (out : List Nat) (pt : Addr), p ≤ data.length ∧ data.length - p < f ∧ d = .slice (some pt) (data.length - p) (cap - p) ∧ (p < data.length → pt = ⟨b, o + p, none⟩) ∧ Hid (out ++ Fo.runGo f (data.drop p) = R) ∧ out.length ≤ 2 * p ∧ wr.ownsRow B 5 1 v out.length (out.map fun x : Nat => .int .u8 (x : Int)) ∧ Kept 5 B [] w wr) (fun d _ _ => sliceLen d)
  case atStart => exact ⟨0, data.length + 1, [], ⟨b, o, none⟩, by omega, by omega, rfl, fun _ => rfl, HR, by simp, World.ownsRow_nil _ _ _ _, Kept.refl _ _ _ _⟩
  clear HR
  case round =>
    obtain ⟨p, f, out, pt, hp, hf, rfl, hpt, HRR, hol, hr, kk⟩ := hrel
    obtain ⟨a0, c0, rfl⟩ := own_slice hr
    have HO := hide hr
    have KK := hide kk
    have hsz := kk.size
    clear hr kk
    by_cases hz : p < data.length
    · obtain ⟨f', rfl⟩ : ∃ f', f = f' + 1 := ⟨f - 1, by omega⟩
      obtain rfl := hpt hz
      have HDw := hide ((HD.out.kept KK.out (by simp)).drop p)
      have HBl : Hid (∀ i, i < (data.drop p).length → nth (data.drop p) i < 256) := by
        intro i hi
        rw [List.length_drop] at hi
        have := BYT.out (p + i) (by omega)
        simpa [nth, List.getElem?_drop] using this
      have hll : data.length - p = (data.drop p).length := by rw [List.length_drop]
      have HDR : Hid (∀ n, (data.drop p).drop n = data.drop (p + n)) := fun n => by rw [List.drop_drop]
      rw [hll]
      generalize data.drop p = l at *
      have HLL := hide hll
      have h0 : 0 < l.length := by omega
      have h0' : (0 : Int) < l.length := by omega
      have hll1 : l.length ≤ 200000 := by omega
      have hcap : l.length ≤ cap - p := by omega
      clear hll
      have HSN := hide (Fo.sameN_le l h0)
      have HSm := hide (sameAhead_ok (cap := cap - p) HDw.out (by omega) (by omega) h0)
      have HE1 : Hid (1 < Fo.sameN l → Fo.runGo (f' + 1) l = (257 - Fo.sameN l) :: nth l 0 :: Fo.runGo f' (l.drop (Fo.sameN l))) := fun h => runGo_same h0 h
      have HE2 : Hid (¬ 1 < Fo.sameN l → (1 ≤ Fo.mixN l ∧ Fo.mixN l ≤ 128 ∧ Fo.mixN l ≤ l.length) ∧ Fo.runGo (f' + 1) l = (Fo.mixN l - 1) :: (l.take (Fo.mixN l) ++ Fo.runGo f' (l.drop (Fo.mixN l)))) := fun h => ⟨Fo.mixN_le l h0 h, runGo_mix h0 h⟩
      generalize Fo.sameN l = S at *
      go_wp2_with fail
      refine HSm.out.mono ?_
      rintro e w1 ⟨rfl, b1⟩
      have HO1 := hide (own_below HO.out b1)
      have HD1 := hide (HDw.out.below b1)
      have K1 := hide (Kept.thenBelow KK.out b1)
      have hsz1 : B ≤ w1.heap.size := by have := b1.size; omega
      clear HO KK b1 HSm HDw
      by_cases hs : 1 < S
      · have hs' : (1 : Int) < S := by omega
        obtain ⟨s1, s2, s3⟩ := HSN.out
        have HE := hide (HE1.out hs)
        have d0 : w1.cell? ⟨b, o + p, none⟩ = some (.int .u8 (nth l 0 : Nat)) := by
          obtain ⟨b', o', e1, _, e3⟩ := HD1.out 0 h0
          cases e1
          exact e3
        have hx := HBl.out 0 h0
        clear HE1 HE2 HSN
        generalize nth l 0 = X at *
        go_wp2_with (at_builtin; refine wpList_append_own _ rfl (.tmp 12) (.tmp 19) 23 rfl B 5 i0 (.int .u8 0) 1 1 Tryz.underlying23 hi hz0 hz1 hz2 rfl (by decide) (.slice a0 out.length c0) out.length _ rfl (HO1.out.alloc _) ⟨w1.heap.size, 0, none⟩ 2 2 ([257 - S, X].map fun x : Nat => .int .u8 (x : Int)) rfl rfl ?hnews ?hone ?h63 ?hby ?hbs ?_)
        case hnews => exact news2 (by omega) rfl
        case hone => intro u hu; simp at hu; rcases hu with rfl | rfl <;> rfl
        case h63 => unfold maxLen; omega
        case hby => omega
        case hbs => simp; omega
        intro v' w2 hr2 hg2 _
        have K2 := hide ((K1.out.alloc _).grown hg2 (own_row (HO1.out.alloc _)))
        have HR2 := hide hr2
        obtain ⟨a2, c2, rfl⟩ := own_slice hr2
        clear hr2 hg2 HO1 K1
        go_wp2
        go_roundw
        case rel =>
          have hL := HLL.out
          refine ⟨p + S, f', out ++ [257 - S, X], if cap - p = S then ⟨b, o + p, none⟩ else ⟨b, o + p + S, none⟩, by omega, by omega, ?_, ?_, ?_, ?_, ?_, K2.out⟩
          · rw [show data.length - (p + S) = l.length - S by omega, show cap - (p + S) = cap - p - S by omega]
            split <;> rfl
          · intro hlt
            rw [if_neg (by omega), Nat.add_assoc]
          · rw [← HDR.out, ← HRR.out, HE.out, List.append_assoc]; rfl
          · rw [List.length_append]; show _ + 2 ≤ _; omega
          · rw [List.map_append, List.length_append]; exact HR2.out
        case measure => simp [sliceLen]; omega
      · have hs' : ¬ (1 : Int) < S := by omega
        obtain ⟨⟨m1, m2, m3⟩, hE⟩ := HE2.out hs
        have HE := hide hE
        have HMx := hide (mixedAhead_ok (cap := cap - p) HD1.out (by omega) hsz1)
        clear HE1 HE2 hE
        generalize Fo.mixN l = M at *
        go_wp2_with fail
        refine HMx.out.mono ?_
        rintro e w2 ⟨rfl, b2⟩
        have HO2 := hide (own_below HO1.out b2)
        have HD2 := hide (HD1.out.below b2)
        have K2 := hide (Kept.thenBelow K1.out b2)
        have hsz2 : B ≤ w2.heap.size := by have := b2.size; omega
        clear HO1 K1 b2 HMx HD1
        have tok : True := trivial
        go_wp2_with (at_builtin; have _t := tok; refine wpList_append_own _ rfl (.tmp 23) (.tmp 27) 23 rfl B 5 i0 (.int .u8 0) 1 1 Tryz.underlying23 hi hz0 hz1 hz2 rfl (by decide) (.slice a0 out.length c0) out.length _ rfl (HO2.out.alloc _) ⟨w2.heap.size, 0, none⟩ 1 1 ([M - 1].map fun x : Nat => .int .u8 (x : Int)) rfl rfl ?hnews ?hone ?h63 ?hby ?hbs ?_; clear tok)
        case hnews => exact news1 (by omega)
        case hone => intro u hu; simp at hu; subst hu; rfl
        case h63 => unfold maxLen; omega
        case hby => omega
        case hbs => simp; omega
        intro v' w3 hr3 hg3 _
        have K3 := hide ((K2.out.alloc _).grown hg3 (own_row (HO2.out.alloc _)))
        have HD3 := hide ((HD2.out.below ((Below.refl _ _).alloc (Nat.le_refl _) _)).kept ((Kept.refl 5 B [] _).grown hg3 (own_row (HO2.out.alloc _))) (by simp))
        have HR3 := hide hr3
        obtain ⟨a3, c3, rfl⟩ := own_slice hr3
        have hsz3 : B ≤ w3.heap.size := by have := hg3.size; simp at this; omega
        clear hr3 hg3 HO2 K2
        go_wp2_with (at_builtin; refine wpList_append_own _ rfl (.tmp 29) (.tmp 32) 23 rfl B 5 i0 (.int .u8 0) 1 1 Tryz.underlying23 hi hz0 hz1 hz2 rfl (by decide) (.slice a3 (out.length + 1) c3) (out.length + 1) _ rfl HR3.out ⟨b, o + p, none⟩ M (cap - p) ((l.take M).map fun x : Nat => .int .u8 (x : Int)) rfl (by rw [List.length_map, List.length_take]; omega) ?hnews ?hone ?h63 ?hby ?hbs ?_)
        case hnews => exact HD3.out.news M m3
        case hone => intro u hu; obtain ⟨x, _, rfl⟩ := List.mem_map.1 hu; rfl
        case h63 => unfold maxLen; omega
        case hby => omega
        case hbs => omega
        intro v' w4 hr4 hg4 _
        have K4 := hide (K3.out.grown hg4 (own_row HR3.out))
        have HR4 := hide hr4
        obtain ⟨a4, c4, rfl⟩ := own_slice hr4
        clear hr4 hg4 HR3 K3
        go_wp2
        go_roundw
        case rel =>
          have hL := HLL.out
          refine ⟨p + M, f', out ++ [M - 1] ++ l.take M, if cap - p = M then ⟨b, o + p, none⟩ else ⟨b, o + p + M, none⟩, by omega, by omega, ?_, ?_, ?_, ?_, ?_, K4.out⟩
          · rw [show data.length - (p + M) = l.length - M by omega, show cap - (p + M) = cap - p - M by omega]
            split <;> rfl
          · intro hlt
            rw [if_neg (by omega), Nat.add_assoc]
          · rw [← HDR.out, ← HRR.out, HE.out, List.append_assoc, List.append_assoc]; rfl
          · rw [List.length_append, List.length_append, List.length_take]; show _ + 1 + _ ≤ _; omega
          · have := HR4.out
            rw [List.map_append, List.map_append, List.length_append, List.length_append, List.length_take, Nat.min_eq_left m3, List.map_take, List.append_assoc]; exact this
        case measure => simp [sliceLen]; omega
    · obtain rfl : p = data.length := by omega
      have hfin : Fo.runGo f (data.drop data.length) = [128] := runGo_end (by simp)
      rw [hfin] at HRR
      rw [Nat.sub_self]
      go_wp2_with (at_builtin; refine wpList_append_own _ rfl (.tmp 37) (.tmp 38) 23 rfl B 5 i0 (.int .u8 0) 1 1 Tryz.underlying23 hi hz0 hz1 hz2 rfl (by decide) (.slice a0 out.length c0) out.length _ rfl (HO.out.alloc _) ⟨wr.heap.size, 0, none⟩ 1 1 ([128].map fun x : Nat => .int .u8 (x : Int)) rfl rfl ?hnews ?hone ?h63 ?hby ?hbs ?_)
      case hnews => exact news1 rfl
      case hone => intro u hu; simp at hu; subst hu; rfl
      case h63 => unfold maxLen; omega
      case hby => omega
      case hbs => simp; omega
      intro v' w2 hr2 hg2 _
      have k2 := (KK.out.alloc _).grown hg2 (own_row (HO.out.alloc _))
      clear hg2
      go_wp2
      go_ret
      refine ⟨v', rfl, ?_, k2⟩
      rw [← HRR.out, List.map_append, List.length_append]
      exact hr2
end Go.Proofs.YtgkljcmjnphpeaaGreatDoor
namespace Go.Proofs.YtgkljcmjnphpeaaGreatDoor
open Go.RowKit
variable {w : World}
end Go.Proofs.YtgkljcmjnphpeaaGreatDoor
namespace Go.Proofs.YtgkljcmjnphpeaaGreatDoor
open Go.RowKit
variable {w : World} {B bw bm g1 g2 cap T : Nat} {data : List Nat} {ao : Option Addr} {bs : List Bool} {at_ : Nat} {rest : List Value}
theorem Wx.lt (h : Wx B bw T rest w bs) : B ≤ bw ∧ bw < w.heap.size := by obtain ⟨_, _, _, hq, _⟩ := h; exact ⟨hq.hb, lt_of_block hq.blk⟩
end Go.Proofs.YtgkljcmjnphpeaaGreatDoor
namespace Go.Proofs.YtgkljcmjnphpeaaGreatDoor
open Go.RowKit
variable {w : World}
def CdF (w : World) (b : Nat) : Prop := Cd w b 0 Fo.csF Fo.ssF
def CdD (w : World) (b : Nat) : Prop := Cd w b 17 Fo.cdF Fo.sdF
theorem CdF.below {b : Nat} {w' : World} (h : CdF w b) (k : Below w.heap.size w w') : CdF w' b :=
  Cd.below h k (by obtain ⟨_, g, c, h2, _⟩ := h; exact World.block_lt_of_cell? w _ h2) (fun g c e => by
    obtain ⟨_, g', c', h2, h3⟩ := h
    rw [h2] at e; cases e
    exact World.block_lt_of_cell? w _ (h3 0 (by decide +kernel)))
theorem CdD.below {b : Nat} {w' : World} (h : CdD w b) (k : Below w.heap.size w w') : CdD w' b :=
  Cd.below h k (by obtain ⟨_, g, c, h2, _⟩ := h; exact World.block_lt_of_cell? w _ h2) (fun g c e => by
    obtain ⟨_, g', c', h2, h3⟩ := h
    rw [h2] at e; cases e
    exact World.block_lt_of_cell? w _ (h3 0 (by decide +kernel)))
end Go.Proofs.YtgkljcmjnphpeaaGreatDoor
namespace Go.Proofs.YtgkljcmjnphpeaaGreatDoor
open Go.RowKit
end Go.Proofs.YtgkljcmjnphpeaaGreatDoor
namespace Go.Proofs.YtgkljcmjnphpeaaGreatDoor
open Go.RowKit
variable {w w' : World} {B bw bm g1 g2 cap T : Nat} {data : List Nat} {ao : Option Addr} {bs : List Bool} {at_ : Nat} {rest : List Value}
theorem De.drew (h : De B bw bm g1 g2 cap data ao w bs at_) : De B bw bm g1 g2 cap data ao w.drew bs at_ := h.below (Below.refl _ _).drew
theorem De.alloc (h : De B bw bm g1 g2 cap data ao w bs at_) (o : Obj) : De B bw bm g1 g2 cap data ao (w.alloc o) bs at_ := h.below ((Below.refl _ _).alloc (Nat.le_refl _) o)
end Go.Proofs.YtgkljcmjnphpeaaGreatDoor
namespace Go.Proofs.YtgkljcmjnphpeaaGreatDoor
open Go.RowKit
variable {w : World} {B bw bm g1 g2 cap T : Nat} {data : List Nat} {ao : Option Addr} {bs : List Bool} {at_ : Nat} {rest : List Value}
theorem IntRow.below {g : Nat} {l : List Nat} {w' : World} (h : IntRow w g l) (k : Below w.heap.size w w') : IntRow w' g l := by
  obtain ⟨c, fz, hb, hc⟩ := h
  exact ⟨c, fz, by rw [k.block _ (lt_of_block hb)]; exact hb, hc⟩
end Go.Proofs.YtgkljcmjnphpeaaGreatDoor
namespace Go.Proofs.YtgkljcmjnphpeaaGreatDoor
open Go.RowKit
variable {w : World} {B bw bm g1 g2 cap T : Nat} {data : List Nat} {ao : Option Addr} {bs : List Bool} {at_ : Nat} {rest : List Value}
/-- Where a deflater stands. -/
def atOf (bw : Nat) (w : World) : Nat := (intOf ((w.cell? ⟨bw, 3, none⟩).getD undef)).toNat
theorem De.atOf (h : De B bw bm g1 g2 cap data ao w bs at_) : atOf bw w = at_ := by unfold Go.Proofs.YtgkljcmjnphpeaaGreatDoor.atOf; rw [h.cells.2.1]; simp [intOf]
end Go.Proofs.YtgkljcmjnphpeaaGreatDoor
