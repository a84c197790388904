/- decodeFlate: what is right, too little room, what lacks its end. -/
import Derived.Test.YtgkljcmjnphpeaaGreatDoorK06
import Derived.Test.YtgkljcmjnphpeaaGreatDoorK00
import Derived.Test.YtgkljcmjnphpeaaGreatDoorK08
import Derived.Test.YtgkljcmjnphpeaaGreatDoorK01
import Derived.MapKept
import Derived.Test.YtgkljcmjnphpeaaGreatDoorK02
import Derived.Test.YtgkljcmjnphpeaaGreatDoorK04
import Derived.Laws.AppendOwnNone
import Derived.Test.YtgkljcmjnphpeaaGreatDoorK07
set_option linter.unusedVariables false
set_option linter.unusedSimpArgs false
namespace Go.Proofs.YtgkljcmjnphpeaaGreatDoor
open Go.RowKit
def key3 (a b c : Nat) : Value := .agg #[.int .u8 (a : Int), .int .u8 (b : Int), .int .u8 (c : Int)]
theorem key3_inj {a b c a' b' c' : Nat} (h : key3 a b c = key3 a' b' c') : a = a' ∧ b = b' ∧ c = c' := by
  simp [key3] at h; omega
theorem run_eq3 (a0 a1 a2 b0 b1 b2 : Nat) (h0 : a0 < 256) (h1 : a1 < 256) (h2 : a2 < 256) (k0 : b0 < 256) (k1 : b1 < 256) (k2 : b2 < 256) (W : World) :
    (Op.equal 281 (key3 a0 a1 a2) (key3 b0 b1 b2)).run Tryz.prog W = .ok (decide ([a0, a1, a2] = [b0, b1, b2])) W := by
  have h := run_equalIn_bytes (P := Tryz.prog) W 9998 281 5 3 Tryz.underlying281 Tryz.underlying5 size_byte [UInt8.ofNat a0, UInt8.ofNat a1, UInt8.ofNat a2] [UInt8.ofNat b0, UInt8.ofNat b1, UInt8.ofNat b2] rfl rfl
  have e : ∀ n : Nat, n < 256 → (UInt8.ofNat n).toNat = n := fun n hn => by simp [Nat.mod_eq_of_lt hn]
  have inj : ∀ m n : Nat, m < 256 → n < 256 → (UInt8.ofNat m = UInt8.ofNat n ↔ m = n) := fun m n hm hn => ⟨fun h => by rw [← e m hm, ← e n hn, h], fun h => by rw [h]⟩
  have hb : ([UInt8.ofNat a0, UInt8.ofNat a1, UInt8.ofNat a2] == [UInt8.ofNat b0, UInt8.ofNat b1, UInt8.ofNat b2]) = decide ([a0, a1, a2] = [b0, b1, b2]) := by
    rw [Bool.eq_iff_iff, beq_iff_eq, decide_eq_true_iff]
    simp only [List.cons.injEq, and_true, inj a0 b0 h0 k0, inj a1 b1 h1 k1, inj a2 b2 h2 k2]
  rw [hb] at h
  simp only [List.map_cons, List.map_nil, Extern.Stop.cell, e _ h0, e _ h1, e _ h2, e _ k0, e _ k1, e _ k2] at h
  rw [show (9998 + 2 : Nat) = 10000 from rfl] at h
  exact h
theorem run_check3 (em : Bool) (a b c : Nat) (W : World) : (Instr.checkKey em 10000 281 (key3 a b c)).run Tryz.prog W = .ok () W := by
  cases em <;> kernel_rfl
theorem run_stays3 (a b c : Nat) (W : World) : (Instr.keyThatStays (key3 a b c) (key3 a b c)).run Tryz.prog W = .ok (key3 a b c) W := by
  have h : Instr.sameBits 10000 (key3 a b c) (key3 a b c) = true := by
    simp [Instr.sameBits, key3]
  unfold Instr.keyThatStays
  rw [if_pos h]; rfl
/-- All keys of a map are three bytes. -/
def Keys3 (es : List MapEntry) : Prop := ∀ e ∈ es, ∃ a b c, a < 256 ∧ b < 256 ∧ c < 256 ∧ e.key = key3 a b c
theorem run_asking (a b c : Nat) (ha : a < 256) (hb : b < 256) (hc : c < 256) (W : World) : ∀ (es : List MapEntry) (i : Nat), Keys3 es →
    ((Instr.findAsking 281 (key3 a b c) es i).run Tryz.prog W = .ok none W ∧ ∀ e ∈ es, e.key ≠ key3 a b c) ∨ ∃ j e, (Instr.findAsking 281 (key3 a b c) es i).run Tryz.prog W = .ok (some (i + j, e.val)) W ∧ es[j]? = some e ∧ e.key = key3 a b c
  | [], i, _ => Or.inl ⟨rfl, by simp⟩
  | e :: es, i, h => by
    obtain ⟨a', b', c', ha', hb', hc', hk⟩ := h e (by simp)
    have hq := run_eq3 a b c a' b' c' ha hb hc ha' hb' hc' W
    by_cases hd : [a, b, c] = [a', b', c']
    · rw [decide_eq_true hd] at hq
      refine Or.inr ⟨0, e, ?_, rfl, ?_⟩
      · simp [Instr.findAsking, hk, hq, Result.andThen]
      · rw [hk]; simp at hd; obtain ⟨rfl, rfl, rfl⟩ := hd; rfl
    · rw [decide_eq_false hd] at hq
      have hs : (Instr.findAsking 281 (key3 a b c) (e :: es) i).run Tryz.prog W = (Instr.findAsking 281 (key3 a b c) es (i + 1)).run Tryz.prog W := by
        simp [Instr.findAsking, hk, hq, Result.andThen]
      rw [hs]
      rcases run_asking a b c ha hb hc W es (i + 1) (fun x hx => h x (List.mem_cons_of_mem _ hx)) with h1 | ⟨j, x, h1, h2, h3⟩
      · refine Or.inl ⟨h1.1, fun x hx => ?_⟩
        rcases List.mem_cons.1 hx with rfl | hx
        · intro he
          obtain ⟨k1, k2, k3⟩ := key3_inj (hk.symm.trans he)
          exact hd (by rw [k1, k2, k3])
        · exact h1.2 x hx
      · exact Or.inr ⟨j + 1, x, by rw [h1, show i + 1 + j = i + (j + 1) by omega], by simpa using h2, h3⟩
theorem run_find3 (a b c : Nat) (ha : a < 256) (hb : b < 256) (hc : c < 256) (W : World) (es : List MapEntry) (h : Keys3 es) :
    ((Instr.findKey 281 (key3 a b c) es).run Tryz.prog W = .ok none W ∧ ∀ e ∈ es, e.key ≠ key3 a b c) ∨ ∃ j e, (Instr.findKey 281 (key3 a b c) es).run Tryz.prog W = .ok (some (j, e.val)) W ∧ es[j]? = some e ∧ e.key = key3 a b c := by
  have hu : (underlying 281).run Tryz.prog W = .ok (.array 3 5) W := by kernel_rfl
  cases es with
  | nil => refine Or.inl ⟨?_, by simp⟩; simp [Instr.findKey, hu, Instr.findNow, Result.andThen]
  | cons e es =>
    have hn : Instr.findNow (.array 3 5) (key3 a b c) (e :: es) 0 = none := by
      obtain ⟨a', b', c', _, _, _, hk⟩ := h e (by simp)
      simp [Instr.findNow, hk, key3, Instr.sameNow]
    have he : (Instr.findKey 281 (key3 a b c) (e :: es)).run Tryz.prog W = (Instr.findAsking 281 (key3 a b c) (e :: es)).run Tryz.prog W := by
      simp [Instr.findKey, hu, hn, Result.andThen]
    rw [he]
    rcases run_asking a b c ha hb hc W (e :: es) 0 h with h1 | ⟨j, x, h1, h2, h3⟩
    · exact Or.inl h1
    · exact Or.inr ⟨j, x, by rw [h1, Nat.zero_add], h2, h3⟩
end Go.Proofs.YtgkljcmjnphpeaaGreatDoor
namespace Go.Proofs.YtgkljcmjnphpeaaGreatDoor
open Go.RowKit
variable {w : World}
/-- All bytes are the same. -/
def Alike (data : List Nat) : Prop := ∀ i, i < data.length → nth data i = nth data 0
/-- Of bytes that are all the same the map has but one key, and it stood last. -/
def OneKey (es : List MapEntry) (data : List Nat) (at_ : Nat) : Prop :=
  Alike data → es.length ≤ 1 ∧ ∀ p, p + 1 = at_ → p + 3 ≤ data.length → ∃ e, es = [e] ∧ e.val = .int .i64 (p : Int)
/-- Where bytes stood: each key that the map has stands at its place, ahead of at. -/
def Stood (w : World) (bm : Nat) (data : List Nat) (at_ : Nat) : Prop :=
  ∃ es clock, w.heap[bm]? = some (.map es clock) ∧ (∀ e ∈ es.toList, ∃ p : Nat, e.val = .int .i64 (p : Int) ∧ p < at_ ∧ p + 3 ≤ data.length ∧ e.key = key3 (nth data p) (nth data (p + 1)) (nth data (p + 2))) ∧ OneKey es.toList data at_
theorem Stood.keys {es : List MapEntry} {data : List Nat} {at_ : Nat} (hb : ∀ i, i < data.length → nth data i < 256)
    (h : ∀ e ∈ es, ∃ p : Nat, e.val = .int .i64 (p : Int) ∧ p < at_ ∧ p + 3 ≤ data.length ∧ e.key = key3 (nth data p) (nth data (p + 1)) (nth data (p + 2))) : Keys3 es := by
  intro e he
  obtain ⟨p, _, _, h3, h4⟩ := h e he
  exact ⟨_, _, _, hb _ (by omega), hb _ (by omega), hb _ (by omega), h4⟩
theorem Stood.put {bm at_ : Nat} {data : List Nat} (h : Stood w bm data at_) (hb : ∀ i, i < data.length → nth data i < 256) (hq : at_ + 3 ≤ data.length) :
    ∃ es, (Instr.mapUpdate 191 (.map (some bm)) (key3 (nth data at_) (nth data (at_ + 1)) (nth data (at_ + 2))) (.int .i64 (at_ : Int))).run Tryz.prog w = .ok () { w with heap := w.heap.setIfInBounds bm es } ∧
      Stood { w with heap := w.heap.setIfInBounds bm es } bm data (at_ + 1) := by
  obtain ⟨es, clock, h1, h2, h5⟩ := h
  have hlt := lt_of_block h1
  have hu : (underlying 191).run Tryz.prog w = .ok (.map 281 3) w := by kernel_rfl
  rcases run_find3 (nth data at_) (nth data (at_ + 1)) (nth data (at_ + 2)) (hb _ (by omega)) (hb _ (by omega)) (hb _ (by omega)) w es.toList (Stood.keys hb h2) with hf | ⟨j, e, hf, he, hk⟩
  · refine ⟨.map (es.push ⟨key3 (nth data at_) (nth data (at_ + 1)) (nth data (at_ + 2)), .int .i64 (at_ : Int), clock⟩) (clock + 1), ?_, ?_⟩
    · simp [Instr.mapUpdate, hu, MapKept.run_getObj_map h1, run_check3, hf.1, MapKept.run_setObj_map _ h1, Result.andThen]
    · refine ⟨_, _, Array.getElem?_setIfInBounds_self_of_lt hlt, ?_, fun ha => ?_⟩
      rotate_left
      · have he : es.toList = [] := by
          cases hes : es.toList with
          | nil => rfl
          | cons x l =>
            obtain ⟨p, p1, p2, p3, p4⟩ := h2 x (by rw [hes]; simp)
            refine absurd ?_ (hf.2 x (by rw [hes]; simp))
            rw [p4, ha p (by omega), ha (p + 1) (by omega), ha (p + 2) (by omega), ha at_ (by omega), ha (at_ + 1) (by omega), ha (at_ + 2) (by omega)]
        rw [Array.toList_push, he]
        refine ⟨by simp, fun p hp _ => ⟨_, rfl, ?_⟩⟩
        obtain rfl : p = at_ := by omega
        rfl
      intro x hx
      simp only [Array.toList_push, List.mem_append, List.mem_singleton] at hx
      rcases hx with hx | rfl
      · obtain ⟨p, p1, p2, p3, p4⟩ := h2 x hx
        exact ⟨p, p1, by omega, p3, p4⟩
      · exact ⟨at_, rfl, by omega, hq, rfl⟩
  · have hj : es[j]? = some e := by simpa using he
    refine ⟨.map (es.modify j fun e => { e with key := key3 (nth data at_) (nth data (at_ + 1)) (nth data (at_ + 2)), val := .int .i64 (at_ : Int) }) clock, ?_, ?_⟩
    · simp [Instr.mapUpdate, hu, MapKept.run_getObj_map h1, run_check3, hf, hj, hk, run_stays3, MapKept.run_setObj_map _ h1, Result.andThen]
    · refine ⟨_, _, Array.getElem?_setIfInBounds_self_of_lt hlt, ?_, fun ha => ?_⟩
      rotate_left
      · have hjl : j < es.size := (Array.getElem?_eq_some_iff.1 hj).1
        have hl1 : es.size ≤ 1 := by have := (h5 ha).1; simpa using this
        obtain rfl : j = 0 := by omega
        have hs1 : es.size = 1 := by omega
        obtain ⟨x, hx⟩ : ∃ x, es.toList = [x] := List.length_eq_one_iff.1 (by simpa using hs1)
        obtain rfl : es = #[x] := by rw [← hx]
        refine ⟨by simp, fun p hp _ => ⟨_, by simp [Array.modify, Array.modifyM]; rfl, ?_⟩⟩
        obtain rfl : p = at_ := by omega
        rfl
      intro x hx
      rcases MapFrom.mem_modify hx with hx | ⟨e', _, rfl⟩
      · obtain ⟨p, p1, p2, p3, p4⟩ := h2 x hx
        exact ⟨p, p1, by omega, p3, p4⟩
      · exact ⟨at_, rfl, by omega, hq, rfl⟩
/-- A deflater in memory. -/
structure De (B bw bm g1 g2 cap : Nat) (data : List Nat) (ao : Option Addr) (w : World) (bs : List Bool) (at_ : Nat) : Prop where
  wx : Wx B bw 194 [.slice ao data.length cap, .int .i64 at_, .map (some bm), .slice (some ⟨g1, 0, none⟩) 288 288, .slice (some ⟨g2, 0, none⟩) 32 32] w bs
  dat : Dat w B ao data
  byt : ∀ i, i < data.length → nth data i < 256
  len : data.length ≤ 1000000
  lc : data.length ≤ cap ∧ cap ≤ 9223372036854775807
  hat : at_ ≤ data.length
  st : Stood w bm data at_
  r1 : CodeRow w g1 Fo.tabF
  r2 : CodeRow w g2 Fo.tadF
  hbm : B ≤ bm
variable {B bw bm g1 g2 cap T : Nat} {data : List Nat} {ao : Option Addr} {bs : List Bool} {at_ : Nat} {rest : List Value}
theorem own_below {B : Nat} {e : TypeId} {k : Nat} {v : Value} {n : Nat} {xs : List Value} {w w' : World} (h : w.ownsRow B e k v n xs) (b : Below w.heap.size w w') : w'.ownsRow B e k v n xs := by
  obtain ⟨h1, h2⟩ := h
  refine ⟨h1, ?_⟩
  rcases h2 with h2 | ⟨g, c, cur, e1, e2, hh, hc⟩
  · exact Or.inl h2
  · exact Or.inr ⟨g, c, cur, e1, e2, by rw [b.block _ (lt_of_block hh)]; exact hh, hc⟩
theorem Wx.below {w' : World} (h : Wx B bw T rest w bs) (b : Below w.heap.size w w') : Wx B bw T rest w' bs := by
  obtain ⟨ov, out, used, ⟨h1, h2, h3, h4⟩, h5⟩ := h
  exact ⟨ov, out, used, ⟨h1, h2, by rw [b.block _ (lt_of_block h3)]; exact h3, own_below h4 b⟩, h5⟩
theorem Dat.below {l : List Nat} {w' : World} (h : Dat w B ao l) (b : Below w.heap.size w w') : Dat w' B ao l := by
  intro i hi
  obtain ⟨c, o, h1, h2, h3⟩ := h i hi
  exact ⟨c, o, h1, h2, (b.cell (p := ⟨c, o + i, none⟩) (World.block_lt_of_cell? w _ h3)).trans h3⟩
theorem Stood.below {w' : World} (h : Stood w bm data at_) (b : Below w.heap.size w w') : Stood w' bm data at_ := by
  obtain ⟨es, clock, h1, h2⟩ := h
  exact ⟨es, clock, by rw [b.block _ (lt_of_block h1)]; exact h1, h2⟩
theorem CodeRow.below' {w' : World} {g : Nat} {t : List (Nat × Nat)} (h : CodeRow w g t) (b : Below w.heap.size w w') : CodeRow w' g t := by
  obtain ⟨C, h1, h2⟩ := h
  exact ⟨C, by rw [b.block _ (lt_of_block h1)]; exact h1, h2⟩
theorem De.below {w' : World} (h : De B bw bm g1 g2 cap data ao w bs at_) (b : Below w.heap.size w w') : De B bw bm g1 g2 cap data ao w' bs at_ :=
  ⟨h.wx.below b, h.dat.below b, h.byt, h.len, h.lc, h.hat, h.st.below b, h.r1.below' b, h.r2.below' b, h.hbm⟩
theorem De.cells (h : De B bw bm g1 g2 cap data ao w bs at_) : w.cell? ⟨bw, 2, none⟩ = some (.slice ao data.length cap) ∧ w.cell? ⟨bw, 3, none⟩ = some (.int .i64 at_) ∧ w.cell? ⟨bw, 4, none⟩ = some (.map (some bm)) ∧ w.cell? ⟨bw, 5, none⟩ = some (.slice (some ⟨g1, 0, none⟩) 288 288) ∧ w.cell? ⟨bw, 6, none⟩ = some (.slice (some ⟨g2, 0, none⟩) 32 32) ∧ B ≤ bw ∧ bw < w.heap.size ∧ w.frozen? ⟨bw, 3, none⟩ = false := by
  obtain ⟨ov, out, used, hq, _⟩ := h.wx
  have := hq.blk
  refine ⟨?_, ?_, ?_, ?_, ?_, hq.hb, lt_of_block hq.blk, free_blk hq.blk⟩ <;> (rw [cell_blk this]; simp)
theorem Dat.at {l : List Nat} (h : Dat w B ao l) (h0 : 0 < l.length) : ∃ b o, ao = some ⟨b, o, none⟩ ∧ b < B ∧ ∀ i, i < l.length → w.cell? ⟨b, o + i, none⟩ = some (.int .u8 (nth l i : Nat)) := by
  obtain ⟨b, o, h1, h2, _⟩ := h 0 h0
  refine ⟨b, o, h1, h2, fun i hi => ?_⟩
  obtain ⟨b', o', h1', _, h3⟩ := h i hi
  rw [h1] at h1'
  cases h1'
  exact h3
end Go.Proofs.YtgkljcmjnphpeaaGreatDoor
namespace Go.Proofs.YtgkljcmjnphpeaaGreatDoor
open Go.RowKit
variable {w : World} {B bw bm g1 g2 cap T : Nat} {data : List Nat} {ao : Option Addr} {bs : List Bool} {at_ : Nat} {rest : List Value}
theorem below_drewN {B : Nat} {a w : World} (h : Below B a w) (n : Nat) : Below B a (w.drewN n) := ⟨h.os, h.tape, h.output, h.size, h.block⟩
end Go.Proofs.YtgkljcmjnphpeaaGreatDoor
namespace Go.Proofs.YtgkljcmjnphpeaaGreatDoor
open Go.RowKit
variable {w w' : World} {B bw bm g1 g2 cap T : Nat} {data : List Nat} {ao : Option Addr} {bs : List Bool} {at_ : Nat} {rest : List Value}
theorem Stood.later {a b : Nat} (h : Stood w bm data a) (hab : a ≤ b) (hn : ¬ b + 2 ≤ data.length) : Stood w bm data b := by
  obtain ⟨es, clock, h1, h2, h5⟩ := h
  refine ⟨es, clock, h1, fun e he => ?_, fun ha => ⟨(h5 ha).1, fun p hp hl => absurd hl (by omega)⟩⟩
  obtain ⟨p, p1, p2, p3⟩ := h2 e he
  exact ⟨p, p1, by omega, p3⟩
theorem Stood.other {a : Nat} (h : Stood w bm data a) (hb : w'.heap[bm]? = w.heap[bm]?) : Stood w' bm data a := by
  obtain ⟨es, clock, h1, h2⟩ := h
  exact ⟨es, clock, hb.trans h1, h2⟩
theorem CodeRow.other {g : Nat} {t : List (Nat × Nat)} (h : CodeRow w g t) (hb : w'.heap[g]? = w.heap[g]?) : CodeRow w' g t := by
  obtain ⟨C, h1, h2⟩ := h
  exact ⟨C, hb.trans h1, h2⟩
theorem Dat.other {l : List Nat} (h : Dat w B ao l) (hb : ∀ k, k < B → w'.heap[k]? = w.heap[k]?) : Dat w' B ao l := by
  intro i hi
  obtain ⟨b, o, h1, h2, h3⟩ := h i hi
  exact ⟨b, o, h1, h2, by rw [World.cell?_of_block (w := w) (hb b h2)]; exact h3⟩
theorem Wx.next {a : Value} {x y : Nat} {r : List Value} (h : Wx B bw T (a :: .int .i64 x :: r) w bs) : Wx B bw T (a :: .int .i64 y :: r) (w.setCell ⟨bw, 3, none⟩ (.int .i64 y)) bs := by
  obtain ⟨ov, out, used, ⟨h1, h2, h3, h4⟩, h5⟩ := h
  refine ⟨ov, out, used, ⟨h1, h2, ?_, ?_⟩, h5⟩
  · rw [blk_setCell _ h3]; simp
  · exact ownsRow_setCell_other h4 (own_ne h4 h3 h2) _
theorem Wx.other (h : Wx B bw T rest w bs) (hb : ∀ (k : Nat) (c : Array Value) (t : TypeId) (fz : Nat × Nat), w.heap[k]? = some (Obj.cells c t fz) → w'.heap[k]? = some (Obj.cells c t fz)) : Wx B bw T rest w' bs := by
  obtain ⟨ov, out, used, ⟨h1, h2, h3, h4, h4'⟩, h5⟩ := h
  refine ⟨ov, out, used, ⟨h1, h2, hb _ _ _ _ h3, h4, ?_⟩, h5⟩
  rcases h4' with h4' | ⟨g, c, cur, e1, e2, hh, hc⟩
  · exact Or.inl h4'
  · exact Or.inr ⟨g, c, cur, e1, e2, hb _ _ _ _ hh, hc⟩
theorem De.ne (h : De B bw bm g1 g2 cap data ao w bs at_) : bm ≠ bw ∧ g1 ≠ bw ∧ g2 ≠ bw ∧ bm < w.heap.size := by
  obtain ⟨ov, out, used, ⟨h1, h2, h3, h4⟩, h5⟩ := h.wx
  obtain ⟨es, clock, m1, _⟩ := h.st
  obtain ⟨C1, r1, _⟩ := h.r1
  obtain ⟨C2, r2, _⟩ := h.r2
  refine ⟨fun e => ?_, fun e => ?_, fun e => ?_, lt_of_block m1⟩
  · subst e; rw [m1] at h3; cases h3
  · subst e; rw [r1] at h3; simp at h3
  · subst e; rw [r2] at h3; simp at h3
/-- One byte on, where no key is kept. -/
theorem De.go (h : De B bw bm g1 g2 cap data ao w bs at_) (hlt : at_ < data.length) (hno : ¬ at_ + 3 ≤ data.length) : De B bw bm g1 g2 cap data ao (w.setCell ⟨bw, 3, none⟩ (.int .i64 (at_ + 1 : Nat))) bs (at_ + 1) ∧ Kept 5 B [bw, bm] w (w.setCell ⟨bw, 3, none⟩ (.int .i64 (at_ + 1 : Nat))) := by
  obtain ⟨n1, n2, n3, _⟩ := h.ne
  obtain ⟨_, _, _, _, _, hbw, _⟩ := h.cells
  exact ⟨⟨h.wx.next, h.dat.other (fun k hk => blk_setCell_ne _ (by omega)), h.byt, h.len, h.lc, hlt, (h.st.later (by omega) (by omega)).other (blk_setCell_ne _ n1), h.r1.other (blk_setCell_ne _ n2), h.r2.other (blk_setCell_ne _ n3), h.hbm⟩, (Kept.refl _ _ _ _).setCell (by simp) _⟩
/-- One byte on, where its key is kept. -/
theorem De.upd (h : De B bw bm g1 g2 cap data ao w bs at_) (hk : at_ + 3 ≤ data.length) :
    ∃ w3, (Instr.mapUpdate 191 (.map (some bm)) (key3 (nth data at_) (nth data (at_ + 1)) (nth data (at_ + 2))) (.int .i64 (at_ : Int))).run Tryz.prog w = .ok () w3 ∧ w3.cell? ⟨bw, 3, none⟩ = some (.int .i64 at_) ∧ w3.frozen? ⟨bw, 3, none⟩ = false ∧
      De B bw bm g1 g2 cap data ao (w3.setCell ⟨bw, 3, none⟩ (.int .i64 (at_ + 1 : Nat))) bs (at_ + 1) ∧ Kept 5 B [bw, bm] w (w3.setCell ⟨bw, 3, none⟩ (.int .i64 (at_ + 1 : Nat))) := by
  obtain ⟨es, hup, hst⟩ := h.st.put h.byt hk
  obtain ⟨n1, n2, n3, n4⟩ := h.ne
  obtain ⟨es0, clock, m1, _⟩ := h.st
  have hoth : ∀ k, k ≠ bm → ({ w with heap := w.heap.setIfInBounds bm es } : World).heap[k]? = w.heap[k]? := fun k hk => Array.getElem?_setIfInBounds_ne (fun e => hk e.symm)
  have hcell : ∀ (k : Nat) (c : Array Value) (t : TypeId) (fz : Nat × Nat), w.heap[k]? = some (Obj.cells c t fz) → ({ w with heap := w.heap.setIfInBounds bm es } : World).heap[k]? = some (Obj.cells c t fz) := by
    intro k c t fz hc
    rw [hoth k (fun e => by subst e; rw [m1] at hc; cases hc)]; exact hc
  refine ⟨_, hup, ?_⟩
  have hsz : ({ w with heap := w.heap.setIfInBounds bm es } : World).heap.size = w.heap.size := Array.size_setIfInBounds
  have hK : Kept 5 B [bw, bm] w { w with heap := w.heap.setIfInBounds bm es } := ⟨rfl, rfl, rfl, Nat.le_of_eq hsz.symm, fun k o hk ho _ => by rw [hoth k (by simp at hk; exact hk.2)]; exact ho⟩
  generalize ({ w with heap := w.heap.setIfInBounds bm es } : World) = w3 at *
  have hwx := h.wx.other hcell
  obtain ⟨_, _, _, _, _, hbw, _⟩ := h.cells
  have hB := h.hbm
  have hr1 : CodeRow w3 g1 Fo.tabF := by obtain ⟨C, c1, c2⟩ := h.r1; exact ⟨C, hcell _ _ _ _ c1, c2⟩
  have hr2 : CodeRow w3 g2 Fo.tadF := by obtain ⟨C, c1, c2⟩ := h.r2; exact ⟨C, hcell _ _ _ _ c1, c2⟩
  have hdat : Dat w3 B ao data := h.dat.other (fun k hk => hoth k (by omega))
  refine ⟨?_, ?_, ⟨hwx.next, hdat.other (fun k hk => blk_setCell_ne _ (by omega)), h.byt, h.len, h.lc, by omega, hst.other (blk_setCell_ne _ n1), hr1.other (blk_setCell_ne _ n2), hr2.other (blk_setCell_ne _ n3), hB⟩, hK.setCell (by simp) _⟩
  · obtain ⟨ov, out, used, hq, _⟩ := hwx
    rw [cell_blk hq.blk]; simp
  · obtain ⟨ov, out, used, hq, _⟩ := hwx
    exact free_blk hq.blk
theorem De.drewN (h : De B bw bm g1 g2 cap data ao w bs at_) (n : Nat) : De B bw bm g1 g2 cap data ao (w.drewN n) bs at_ := h.below (below_drewN (Below.refl _ _) n)
end Go.Proofs.YtgkljcmjnphpeaaGreatDoor
namespace Go.Proofs.YtgkljcmjnphpeaaGreatDoor
open Go.RowKit
variable {w : World}
end Go.Proofs.YtgkljcmjnphpeaaGreatDoor
namespace Go.Proofs.YtgkljcmjnphpeaaGreatDoor
open Go.RowKit
variable {w : World} {B bw bm g1 g2 cap T : Nat} {data : List Nat} {ao : Option Addr} {bs : List Bool} {at_ : Nat} {rest : List Value}
theorem Wx.lt (h : Wx B bw T rest w bs) : B ≤ bw ∧ bw < w.heap.size := by obtain ⟨_, _, _, hq, _⟩ := h; exact ⟨hq.hb, lt_of_block hq.blk⟩
end Go.Proofs.YtgkljcmjnphpeaaGreatDoor
namespace Go.Proofs.YtgkljcmjnphpeaaGreatDoor
open Go.RowKit
variable {w : World}
def CdF (w : World) (b : Nat) : Prop := Cd w b 0 Fo.csF Fo.ssF
def CdD (w : World) (b : Nat) : Prop := Cd w b 17 Fo.cdF Fo.sdF
theorem CdF.below {b : Nat} {w' : World} (h : CdF w b) (k : Below w.heap.size w w') : CdF w' b :=
  Cd.below h k (by obtain ⟨_, g, c, h2, _⟩ := h; exact World.block_lt_of_cell? w _ h2) (fun g c e => by
    obtain ⟨_, g', c', h2, h3⟩ := h
    rw [h2] at e; cases e
    exact World.block_lt_of_cell? w _ (h3 0 (by decide +kernel)))
theorem CdD.below {b : Nat} {w' : World} (h : CdD w b) (k : Below w.heap.size w w') : CdD w' b :=
  Cd.below h k (by obtain ⟨_, g, c, h2, _⟩ := h; exact World.block_lt_of_cell? w _ h2) (fun g c e => by
    obtain ⟨_, g', c', h2, h3⟩ := h
    rw [h2] at e; cases e
    exact World.block_lt_of_cell? w _ (h3 0 (by decide +kernel)))
end Go.Proofs.YtgkljcmjnphpeaaGreatDoor
namespace Go.Proofs.YtgkljcmjnphpeaaGreatDoor
open Go.RowKit
end Go.Proofs.YtgkljcmjnphpeaaGreatDoor
namespace Go.Proofs.YtgkljcmjnphpeaaGreatDoor
open Go.RowKit
variable {w w' : World} {B bw bm g1 g2 cap T : Nat} {data : List Nat} {ao : Option Addr} {bs : List Bool} {at_ : Nat} {rest : List Value}
theorem De.drew (h : De B bw bm g1 g2 cap data ao w bs at_) : De B bw bm g1 g2 cap data ao w.drew bs at_ := h.below (Below.refl _ _).drew
theorem De.alloc (h : De B bw bm g1 g2 cap data ao w bs at_) (o : Obj) : De B bw bm g1 g2 cap data ao (w.alloc o) bs at_ := h.below ((Below.refl _ _).alloc (Nat.le_refl _) o)
end Go.Proofs.YtgkljcmjnphpeaaGreatDoor
namespace Go.Proofs.YtgkljcmjnphpeaaGreatDoor
open Go.RowKit
variable {w : World} {B bw bm g1 g2 cap T : Nat} {data : List Nat} {ao : Option Addr} {bs : List Bool} {at_ : Nat} {rest : List Value}
theorem IntRow.below {g : Nat} {l : List Nat} {w' : World} (h : IntRow w g l) (k : Below w.heap.size w w') : IntRow w' g l := by
  obtain ⟨c, fz, hb, hc⟩ := h
  exact ⟨c, fz, by rw [k.block _ (lt_of_block hb)]; exact hb, hc⟩
theorem IntRow.setCells {g b o : Nat} {l : List Nat} {vs : List Value} (h : IntRow w g l) (hne : g ≠ b) : IntRow (w.setCells b o vs) g l := by
  obtain ⟨c, fz, hb, hc⟩ := h
  exact ⟨c, fz, by rw [setCells_ne _ hne]; exact hb, hc⟩
end Go.Proofs.YtgkljcmjnphpeaaGreatDoor
namespace Go.Proofs.YtgkljcmjnphpeaaGreatDoor
open Go.RowKit
variable {w : World} {B bw bm g1 g2 cap T : Nat} {data : List Nat} {ao : Option Addr} {bs : List Bool} {at_ : Nat} {rest : List Value}
end Go.Proofs.YtgkljcmjnphpeaaGreatDoor
namespace Go.Proofs.YtgkljcmjnphpeaaGreatDoor
open Go.RowKit
variable {w : World} {B bw cap T : Nat} {data : List Nat} {ao : Option Addr} {bs : List Bool} {rest : List Value}
theorem Dat.kept {S : List Nat} {w' : World} (h : Dat w B ao data) (k : Kept 5 B S w w') (hS : ∀ x ∈ S, B ≤ x) : Dat w' B ao data := by
  intro i hi
  obtain ⟨b, o, e1, e2, e3⟩ := h i hi
  exact ⟨b, o, e1, e2, k.cell hS e2 e3⟩
end Go.Proofs.YtgkljcmjnphpeaaGreatDoor
namespace Go.Proofs.YtgkljcmjnphpeaaGreatDoor
open Go.RowKit
variable {w : World} {B cap : Nat} {data : List Nat} {ao : Option Addr}
/-- A first block of which too much comes out. -/
def BlockNo (most : Nat) (rr : List Bool) : Prop :=
  (∃ b r, rr = b :: (Fo.numBits 2 1 ++ r) ∧ Fo.PartsTo Fo.fixedC 32768 most r [] (.error 6)) ∨
  (∃ (b : Bool) (r r' : List Bool) (D : List Nat), rr = b :: (Fo.numBits 2 0 ++ r) ∧ 0 < D.length ∧ D.length ≤ 65535 ∧ (∀ i, i < D.length → nth D i < 256) ∧ r.drop (r.length % 8) = Fo.numBits 16 D.length ++ (Fo.numBits 16 (65535 - D.length) ++ (Fo.bitsOf D ++ r')) ∧ r'.length % 8 = 0 ∧ most < D.length)
/-- Blocks that are unpacked to the data. -/
structure Packed (data bl : List Nat) : Prop where
  to : ∀ (most : Nat) (t : List Nat), data.length ≤ most → ∃ r, Blocks 32768 most (Fo.bitsOf (bl ++ t)) [] r data ∧ r.drop (r.length % 8) = Fo.bitsOf t
  no : ∀ (most : Nat) (t : List Nat), most < data.length → BlockNo most (Fo.bitsOf (bl ++ t))
end Go.Proofs.YtgkljcmjnphpeaaGreatDoor
namespace Go.Proofs.YtgkljcmjnphpeaaGreatDoor
open Go.RowKit
variable {w : World} {B cap n : Nat} {data : List Nat} {ao : Option Addr} {P : Value → World → Prop}
theorem fenc1 (hc : Calls Tryz.prog 101 #[.slice ao n cap] w fun e w' => ∃ v, e = .returned v ∧ P v w') :
    Calls Tryz.prog 70 #[.int .i64 1, .slice ao n cap] w fun e w' => ∃ v, e = .returned v ∧ P v w' := by
  have HC := hide hc
  clear hc
  go_enter Tryz.func70, Tryz.ntmps70
  go_wp2_with fail
  refine HC.out.mono ?_
  rintro e w1 ⟨v, rfl, hp⟩
  go_wp2
  go_ret
  exact ⟨v, rfl, hp⟩
theorem face_encode (f : Nat) (hf : 1 ≤ f ∧ f ≤ 4) (hn : n ≤ 200000) (hc : Calls Tryz.prog 70 #[.int .i64 f, .slice ao n cap] w fun e w' => ∃ v, e = .returned v ∧ P v w') :
    Calls Tryz.prog 33 #[.int .i64 f, .slice ao n cap] w fun e w' => ∃ v, e = .returned (.tuple #[v, .int .i64 0]) ∧ P v w' := by
  have HC := hide hc
  clear hc
  go_enter Tryz.func33, Tryz.ntmps33
  go_wp2_with (go_at_call 63; refine (within_int_yes _ _ _ _ (by omega) (by omega)).mono ?_; rintro e w' ⟨rfl, rfl⟩)
  refine HC.out.mono ?_
  rintro e w1 ⟨v, rfl, hp⟩
  go_wp2
  exact bodyPost_ret (v := .tuple #[v, .int .i64 0]) (by simp [results, Tryz.results33, go_sem]) rfl ⟨v, rfl, hp⟩
/-- What filter 1 answers. -/
def Enc1 (w : World) (data : List Nat) (v : Value) (w' : World) : Prop :=
  w'.ownsRow w.heap.size 5 1 v (2 * data.length + 1) ((Fo.hexOf data ++ [62]).map fun x : Nat => .int .u8 (x : Int)) ∧ Below w.heap.size w w'
theorem encode1_ok (hd : Dat w B ao data) (hB : B ≤ w.heap.size) (byt : ∀ i, i < data.length → nth data i < 256) (len : data.length ≤ 200000) :
    Calls Tryz.prog 33 #[.int .i64 1, .slice ao data.length cap] w fun e w' => ∃ v, e = .returned (.tuple #[v, .int .i64 0]) ∧ Enc1 w data v w' := by
  refine face_encode 1 (by omega) len (fenc1 ?_)
  have hd' : Dat w w.heap.size ao data := fun i hi => by
    obtain ⟨b, o, e1, e2, e3⟩ := hd i hi
    exact ⟨b, o, e1, by omega, e3⟩
  refine (encodeHex_ok ao cap data (Nat.le_refl _) hd' len byt).mono ?_
  rintro e w' ⟨v, rfl, h1, h2⟩
  exact ⟨v, rfl, h1, h2.below (Nat.le_refl _) (by simp)⟩
end Go.Proofs.YtgkljcmjnphpeaaGreatDoor
namespace Go.Proofs.YtgkljcmjnphpeaaGreatDoor
open Go.RowKit
variable {B br bf bd off cap : Nat} {d : List Nat} {most : Nat} {fixed : List Value} {w : World} {p held left window : Nat} {ov : Value} {out : List Nat}
theorem eq_yes (a0 a1 a2 a3 : Nat) (data t : List Nat) (ht4 : t.length = 4) (htb : ∀ i, i < 4 → nth t i < 256) (h0 : a0 = nth t 0) (h1 : a1 = nth t 1) (h2 : a2 = nth t 2) (h3 : a3 = nth t 3) (hne : t = sum4 data) (W : World) :
    (Op.equalIn 10000 153 (.agg #[.int .u8 (a0 : Int), .int .u8 (a1 : Int), .int .u8 (a2 : Int), .int .u8 (a3 : Int)]) (.agg #[.int .u8 (((sumAB data).2 : Int) / 256), .int .u8 (((sumAB data).2 : Int) % 256), .int .u8 (((sumAB data).1 : Int) / 256), .int .u8 (((sumAB data).1 : Int) % 256)])).run Tryz.prog W = .ok true W := by
  have hs := sumAB_lt data
  have h := run_eq4 a0 a1 a2 a3 ((sumAB data).2 / 256) ((sumAB data).2 % 256) ((sumAB data).1 / 256) ((sumAB data).1 % 256) (by rw [h0]; exact htb 0 (by omega)) (by rw [h1]; exact htb 1 (by omega)) (by rw [h2]; exact htb 2 (by omega)) (by rw [h3]; exact htb 3 (by omega)) (by omega) (by omega) (by omega) (by omega) W
  have e : decide ([a0, a1, a2, a3] = [(sumAB data).2 / 256, (sumAB data).2 % 256, (sumAB data).1 / 256, (sumAB data).1 % 256]) = true := by
    rw [decide_eq_true_iff, h0, h1, h2, h3, hne]
    rfl
  rw [e] at h
  simpa using h
/-- What the test of the sum reads ahead of the sum itself. -/
def Sfc (bf br : Nat) (ptr sl : Value) (_L : Array Bool) (W : World) : Prop := W.cell? ⟨bf, 0, none⟩ = some ptr ∧ W.cell? ⟨br, 2, none⟩ = some sl
end Go.Proofs.YtgkljcmjnphpeaaGreatDoor
