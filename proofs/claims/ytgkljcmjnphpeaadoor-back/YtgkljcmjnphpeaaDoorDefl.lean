/- A deflater in memory; hasKey, key. -/
import Derived.Test.YtgkljcmjnphpeaaDoorFlate
import Derived.Test.YtgkljcmjnphpeaaDoorRd
import Derived.Test.YtgkljcmjnphpeaaDoorBitC
import Derived.Test.YtgkljcmjnphpeaaDoorBySym
import Derived.MapKept
set_option linter.unusedVariables false
set_option linter.unusedSimpArgs false
namespace Go.Proofs.YtgkljcmjnphpeaaDoor
open Go.RowKit

def key3 (a b c : Nat) : Value := .agg #[.int .u8 (a : Int), .int .u8 (b : Int), .int .u8 (c : Int)]

theorem key3_inj {a b c a' b' c' : Nat} (h : key3 a b c = key3 a' b' c') : a = a' ∧ b = b' ∧ c = c' := by
  simp [key3] at h; omega

theorem run_eq3 (a0 a1 a2 b0 b1 b2 : Nat) (h0 : a0 < 256) (h1 : a1 < 256) (h2 : a2 < 256) (k0 : b0 < 256) (k1 : b1 < 256) (k2 : b2 < 256) (W : World) :
    (Op.equal 109 (key3 a0 a1 a2) (key3 b0 b1 b2)).run Tryd.prog W = .ok (decide ([a0, a1, a2] = [b0, b1, b2])) W := by
  have h := run_equalIn_bytes (P := Tryd.prog) W 9998 109 5 3 Tryd.underlying109 Tryd.underlying5 size_byte [UInt8.ofNat a0, UInt8.ofNat a1, UInt8.ofNat a2] [UInt8.ofNat b0, UInt8.ofNat b1, UInt8.ofNat b2] rfl rfl
  have e : ∀ n : Nat, n < 256 → (UInt8.ofNat n).toNat = n := fun n hn => by simp [Nat.mod_eq_of_lt hn]
  have inj : ∀ m n : Nat, m < 256 → n < 256 → (UInt8.ofNat m = UInt8.ofNat n ↔ m = n) := fun m n hm hn => ⟨fun h => by rw [← e m hm, ← e n hn, h], fun h => by rw [h]⟩
  have hb : ([UInt8.ofNat a0, UInt8.ofNat a1, UInt8.ofNat a2] == [UInt8.ofNat b0, UInt8.ofNat b1, UInt8.ofNat b2]) = decide ([a0, a1, a2] = [b0, b1, b2]) := by
    rw [Bool.eq_iff_iff, beq_iff_eq, decide_eq_true_iff]
    simp only [List.cons.injEq, and_true, inj a0 b0 h0 k0, inj a1 b1 h1 k1, inj a2 b2 h2 k2]
  rw [hb] at h
  simp only [List.map_cons, List.map_nil, Extern.Stop.cell, e _ h0, e _ h1, e _ h2, e _ k0, e _ k1, e _ k2] at h
  rw [show (9998 + 2 : Nat) = 10000 from rfl] at h
  exact h

theorem run_check3 (em : Bool) (a b c : Nat) (W : World) : (Instr.checkKey em 10000 109 (key3 a b c)).run Tryd.prog W = .ok () W := by
  cases em <;> kernel_rfl
theorem run_stays3 (a b c : Nat) (W : World) : (Instr.keyThatStays (key3 a b c) (key3 a b c)).run Tryd.prog W = .ok (key3 a b c) W := by
  have h : Instr.sameBits 10000 (key3 a b c) (key3 a b c) = true := by
    simp [Instr.sameBits, key3]
  unfold Instr.keyThatStays
  rw [if_pos h]; rfl

/-- All keys of a map are three bytes. -/
def Keys3 (es : List MapEntry) : Prop := ∀ e ∈ es, ∃ a b c, a < 256 ∧ b < 256 ∧ c < 256 ∧ e.key = key3 a b c

theorem run_asking (a b c : Nat) (ha : a < 256) (hb : b < 256) (hc : c < 256) (W : World) : ∀ (es : List MapEntry) (i : Nat), Keys3 es →
    ((Instr.findAsking 109 (key3 a b c) es i).run Tryd.prog W = .ok none W) ∨ ∃ j e, (Instr.findAsking 109 (key3 a b c) es i).run Tryd.prog W = .ok (some (i + j, e.val)) W ∧ es[j]? = some e ∧ e.key = key3 a b c
  | [], i, _ => Or.inl rfl
  | e :: es, i, h => by
    obtain ⟨a', b', c', ha', hb', hc', hk⟩ := h e (by simp)
    have hq := run_eq3 a b c a' b' c' ha hb hc ha' hb' hc' W
    by_cases hd : [a, b, c] = [a', b', c']
    · rw [decide_eq_true hd] at hq
      refine Or.inr ⟨0, e, ?_, rfl, ?_⟩
      · simp [Instr.findAsking, hk, hq, Result.andThen]
      · rw [hk]; simp at hd; obtain ⟨rfl, rfl, rfl⟩ := hd; rfl
    · rw [decide_eq_false hd] at hq
      have hs : (Instr.findAsking 109 (key3 a b c) (e :: es) i).run Tryd.prog W = (Instr.findAsking 109 (key3 a b c) es (i + 1)).run Tryd.prog W := by
        simp [Instr.findAsking, hk, hq, Result.andThen]
      rw [hs]
      rcases run_asking a b c ha hb hc W es (i + 1) (fun x hx => h x (List.mem_cons_of_mem _ hx)) with h1 | ⟨j, x, h1, h2, h3⟩
      · exact Or.inl h1
      · exact Or.inr ⟨j + 1, x, by rw [h1, show i + 1 + j = i + (j + 1) by omega], by simpa using h2, h3⟩

theorem run_find3 (a b c : Nat) (ha : a < 256) (hb : b < 256) (hc : c < 256) (W : World) (es : List MapEntry) (h : Keys3 es) :
    ((Instr.findKey 109 (key3 a b c) es).run Tryd.prog W = .ok none W) ∨ ∃ j e, (Instr.findKey 109 (key3 a b c) es).run Tryd.prog W = .ok (some (j, e.val)) W ∧ es[j]? = some e ∧ e.key = key3 a b c := by
  have hu : (underlying 109).run Tryd.prog W = .ok (.array 3 5) W := by kernel_rfl
  cases es with
  | nil => refine Or.inl ?_; simp [Instr.findKey, hu, Instr.findNow, Result.andThen]
  | cons e es =>
    have hn : Instr.findNow (.array 3 5) (key3 a b c) (e :: es) 0 = none := by
      obtain ⟨a', b', c', _, _, _, hk⟩ := h e (by simp)
      simp [Instr.findNow, hk, key3, Instr.sameNow]
    have he : (Instr.findKey 109 (key3 a b c) (e :: es)).run Tryd.prog W = (Instr.findAsking 109 (key3 a b c) (e :: es)).run Tryd.prog W := by
      simp [Instr.findKey, hu, hn, Result.andThen]
    rw [he]
    rcases run_asking a b c ha hb hc W (e :: es) 0 h with h1 | ⟨j, x, h1, h2, h3⟩
    · exact Or.inl h1
    · exact Or.inr ⟨j, x, by rw [h1, Nat.zero_add], h2, h3⟩
end Go.Proofs.YtgkljcmjnphpeaaDoor
namespace Go.Proofs.YtgkljcmjnphpeaaDoor
open Go.RowKit
variable {w : World}

/-- Where bytes stood: each key that the map has stands at its place, ahead of at. -/
def Stood (w : World) (bm : Nat) (data : List Nat) (at_ : Nat) : Prop :=
  ∃ es clock, w.heap[bm]? = some (.map es clock) ∧ ∀ e ∈ es.toList, ∃ p : Nat, e.val = .int .i64 (p : Int) ∧ p < at_ ∧ p + 3 ≤ data.length ∧ e.key = key3 (nth data p) (nth data (p + 1)) (nth data (p + 2))

theorem Stood.keys {es : List MapEntry} {data : List Nat} {at_ : Nat} (hb : ∀ i, i < data.length → nth data i < 256)
    (h : ∀ e ∈ es, ∃ p : Nat, e.val = .int .i64 (p : Int) ∧ p < at_ ∧ p + 3 ≤ data.length ∧ e.key = key3 (nth data p) (nth data (p + 1)) (nth data (p + 2))) : Keys3 es := by
  intro e he
  obtain ⟨p, _, _, h3, h4⟩ := h e he
  exact ⟨_, _, _, hb _ (by omega), hb _ (by omega), hb _ (by omega), h4⟩

theorem Stood.look {bm at_ : Nat} {data : List Nat} (h : Stood w bm data at_) (hb : ∀ i, i < data.length → nth data i < 256) (q : Nat) (hq : q + 3 ≤ data.length) :
    ∃ (p : Nat) (ok : Bool), (Instr.lookup 68 (.map (some bm)) (key3 (nth data q) (nth data (q + 1)) (nth data (q + 2))) true).run Tryd.prog w = .ok (.tuple #[.int .i64 (p : Int), .bool ok]) w ∧
      (ok = true → p < at_ ∧ p + 3 ≤ data.length ∧ nth data p = nth data q ∧ nth data (p + 1) = nth data (q + 1) ∧ nth data (p + 2) = nth data (q + 2)) := by
  obtain ⟨es, clock, h1, h2⟩ := h
  have hu : (underlying 68).run Tryd.prog w = .ok (.map 109 3) w := by kernel_rfl
  have hz : (zeroValue 3).run Tryd.prog w = .ok (.int .i64 0) w := by kernel_rfl
  rcases run_find3 (nth data q) (nth data (q + 1)) (nth data (q + 2)) (hb _ (by omega)) (hb _ (by omega)) (hb _ (by omega)) w es.toList (Stood.keys hb h2) with hf | ⟨j, e, hf, he, hk⟩
  · refine ⟨0, false, ?_, by simp⟩
    simp [Instr.lookup, hu, MapKept.run_getObj_map h1, run_check3, hf, hz, Result.andThen]
  · obtain ⟨p, p1, p2, p3, p4⟩ := h2 e (List.mem_of_getElem? he)
    obtain ⟨k1, k2, k3⟩ := key3_inj (p4.symm.trans hk)
    refine ⟨p, true, ?_, fun _ => ⟨p2, p3, k1, k2, k3⟩⟩
    simp [Instr.lookup, hu, MapKept.run_getObj_map h1, run_check3, hf, p1, Result.andThen]

theorem Stood.put {bm at_ : Nat} {data : List Nat} (h : Stood w bm data at_) (hb : ∀ i, i < data.length → nth data i < 256) (hq : at_ + 3 ≤ data.length) :
    ∃ es, (Instr.mapUpdate 68 (.map (some bm)) (key3 (nth data at_) (nth data (at_ + 1)) (nth data (at_ + 2))) (.int .i64 (at_ : Int))).run Tryd.prog w = .ok () { w with heap := w.heap.setIfInBounds bm es } ∧
      Stood { w with heap := w.heap.setIfInBounds bm es } bm data (at_ + 1) := by
  obtain ⟨es, clock, h1, h2⟩ := h
  have hlt := lt_of_block h1
  have hu : (underlying 68).run Tryd.prog w = .ok (.map 109 3) w := by kernel_rfl
  rcases run_find3 (nth data at_) (nth data (at_ + 1)) (nth data (at_ + 2)) (hb _ (by omega)) (hb _ (by omega)) (hb _ (by omega)) w es.toList (Stood.keys hb h2) with hf | ⟨j, e, hf, he, hk⟩
  · refine ⟨.map (es.push ⟨key3 (nth data at_) (nth data (at_ + 1)) (nth data (at_ + 2)), .int .i64 (at_ : Int), clock⟩) (clock + 1), ?_, ?_⟩
    · simp [Instr.mapUpdate, hu, MapKept.run_getObj_map h1, run_check3, hf, MapKept.run_setObj_map _ h1, Result.andThen]
    · refine ⟨_, _, Array.getElem?_setIfInBounds_self_of_lt hlt, ?_⟩
      intro x hx
      simp only [Array.toList_push, List.mem_append, List.mem_singleton] at hx
      rcases hx with hx | rfl
      · obtain ⟨p, p1, p2, p3, p4⟩ := h2 x hx
        exact ⟨p, p1, by omega, p3, p4⟩
      · exact ⟨at_, rfl, by omega, hq, rfl⟩
  · have hj : es[j]? = some e := by simpa using he
    refine ⟨.map (es.modify j fun e => { e with key := key3 (nth data at_) (nth data (at_ + 1)) (nth data (at_ + 2)), val := .int .i64 (at_ : Int) }) clock, ?_, ?_⟩
    · simp [Instr.mapUpdate, hu, MapKept.run_getObj_map h1, run_check3, hf, hj, hk, run_stays3, MapKept.run_setObj_map _ h1, Result.andThen]
    · refine ⟨_, _, Array.getElem?_setIfInBounds_self_of_lt hlt, ?_⟩
      intro x hx
      rcases MapFrom.mem_modify hx with hx | ⟨e', _, rfl⟩
      · obtain ⟨p, p1, p2, p3, p4⟩ := h2 x hx
        exact ⟨p, p1, by omega, p3, p4⟩
      · exact ⟨at_, rfl, by omega, hq, rfl⟩

/-- A deflater in memory. -/
structure De (B bw bm g1 g2 cap : Nat) (data : List Nat) (ao : Option Addr) (w : World) (bs : List Bool) (at_ : Nat) : Prop where
  wx : Wx B bw 71 [.slice ao data.length cap, .int .i64 at_, .map (some bm), .slice (some ⟨g1, 0, none⟩) 288 288, .slice (some ⟨g2, 0, none⟩) 32 32] w bs
  dat : Dat w B ao data
  byt : ∀ i, i < data.length → nth data i < 256
  len : data.length ≤ 1000000
  lc : data.length ≤ cap ∧ cap ≤ 9223372036854775807
  hat : at_ ≤ data.length
  st : Stood w bm data at_
  r1 : CodeRow w g1 Fo.tabF
  r2 : CodeRow w g2 Fo.tadF
  hbm : B ≤ bm

variable {B bw bm g1 g2 cap T : Nat} {data : List Nat} {ao : Option Addr} {bs : List Bool} {at_ : Nat} {rest : List Value}

theorem own_below {B : Nat} {e : TypeId} {k : Nat} {v : Value} {n : Nat} {xs : List Value} {w w' : World} (h : w.ownsRow B e k v n xs) (b : Below w.heap.size w w') : w'.ownsRow B e k v n xs := by
  obtain ⟨h1, h2⟩ := h
  refine ⟨h1, ?_⟩
  rcases h2 with h2 | ⟨g, c, cur, e1, e2, hh, hc⟩
  · exact Or.inl h2
  · exact Or.inr ⟨g, c, cur, e1, e2, by rw [b.block _ (lt_of_block hh)]; exact hh, hc⟩
theorem Wx.below {w' : World} (h : Wx B bw T rest w bs) (b : Below w.heap.size w w') : Wx B bw T rest w' bs := by
  obtain ⟨ov, out, used, ⟨h1, h2, h3, h4⟩, h5⟩ := h
  exact ⟨ov, out, used, ⟨h1, h2, by rw [b.block _ (lt_of_block h3)]; exact h3, own_below h4 b⟩, h5⟩
theorem Dat.below {l : List Nat} {w' : World} (h : Dat w B ao l) (b : Below w.heap.size w w') : Dat w' B ao l := by
  intro i hi
  obtain ⟨c, o, h1, h2, h3⟩ := h i hi
  exact ⟨c, o, h1, h2, (b.cell (p := ⟨c, o + i, none⟩) (World.block_lt_of_cell? w _ h3)).trans h3⟩
theorem Stood.below {w' : World} (h : Stood w bm data at_) (b : Below w.heap.size w w') : Stood w' bm data at_ := by
  obtain ⟨es, clock, h1, h2⟩ := h
  exact ⟨es, clock, by rw [b.block _ (lt_of_block h1)]; exact h1, h2⟩
theorem CodeRow.below' {w' : World} {g : Nat} {t : List (Nat × Nat)} (h : CodeRow w g t) (b : Below w.heap.size w w') : CodeRow w' g t := by
  obtain ⟨C, h1, h2⟩ := h
  exact ⟨C, by rw [b.block _ (lt_of_block h1)]; exact h1, h2⟩
theorem De.below {w' : World} (h : De B bw bm g1 g2 cap data ao w bs at_) (b : Below w.heap.size w w') : De B bw bm g1 g2 cap data ao w' bs at_ :=
  ⟨h.wx.below b, h.dat.below b, h.byt, h.len, h.lc, h.hat, h.st.below b, h.r1.below' b, h.r2.below' b, h.hbm⟩

theorem De.cells (h : De B bw bm g1 g2 cap data ao w bs at_) : w.cell? ⟨bw, 2, none⟩ = some (.slice ao data.length cap) ∧ w.cell? ⟨bw, 3, none⟩ = some (.int .i64 at_) ∧ w.cell? ⟨bw, 4, none⟩ = some (.map (some bm)) ∧ w.cell? ⟨bw, 5, none⟩ = some (.slice (some ⟨g1, 0, none⟩) 288 288) ∧ w.cell? ⟨bw, 6, none⟩ = some (.slice (some ⟨g2, 0, none⟩) 32 32) ∧ B ≤ bw ∧ bw < w.heap.size ∧ w.frozen? ⟨bw, 3, none⟩ = false := by
  obtain ⟨ov, out, used, hq, _⟩ := h.wx
  have := hq.blk
  refine ⟨?_, ?_, ?_, ?_, ?_, hq.hb, lt_of_block hq.blk, free_blk hq.blk⟩ <;> (rw [cell_blk this]; simp)

theorem Dat.at {l : List Nat} (h : Dat w B ao l) (h0 : 0 < l.length) : ∃ b o, ao = some ⟨b, o, none⟩ ∧ b < B ∧ ∀ i, i < l.length → w.cell? ⟨b, o + i, none⟩ = some (.int .u8 (nth l i : Nat)) := by
  obtain ⟨b, o, h1, h2, _⟩ := h 0 h0
  refine ⟨b, o, h1, h2, fun i hi => ?_⟩
  obtain ⟨b', o', h1', _, h3⟩ := h i hi
  rw [h1] at h1'
  cases h1'
  exact h3

theorem hasKey_ok (h : De B bw bm g1 g2 cap data ao w bs at_) :
    Calls Tryd.prog 81 #[.pointer (some ⟨bw, 0, none⟩)] w fun e w' => e = .returned (.bool (decide (at_ + 3 ≤ data.length))) ∧ ∃ q, w' = w.drewN q := by
  obtain ⟨c2, c3, _⟩ := h.cells
  have b1 := h.len
  have b2 := h.hat
  have hd : decide ((3 : Int) ≤ (data.length : Int) - at_) = decide (at_ + 3 ≤ data.length) := by rw [decide_eq_decide]; omega
  have HD := hide hd
  clear hd
  go_enter Tryd.func81, Tryd.ntmps81
  go_wp2_with fail
  go_quiet (fail)
  go_wp2
  go_ret
  exact ⟨by show Ending.returned (Value.bool (decide (3 ≤ (data.length : Int) - at_))) = _; rw [HD.out], nq, rfl⟩

theorem run_arrayAt3 (b o n c : Nat) (hn : 3 ≤ n) (W : World) : (Instr.arrayAt 109 (.slice (some ⟨b, o, none⟩) n c)).run Tryd.prog W = .ok (.pointer (some ⟨b, o, none⟩)) W := by
  have hu : (underlying 109).run Tryd.prog W = .ok (.array 3 5) W := by kernel_rfl
  simp [Instr.arrayAt, hu, Result.andThen, show ¬ n < 3 by omega]

set_option maxRecDepth 100000 in
set_option maxHeartbeats 1000000 in
theorem key_ok (h : De B bw bm g1 g2 cap data ao w bs at_) (hk : at_ + 3 ≤ data.length) :
    Calls Tryd.prog 82 #[.pointer (some ⟨bw, 0, none⟩)] w fun e w' => e = .returned (key3 (nth data at_) (nth data (at_ + 1)) (nth data (at_ + 2))) ∧ Below w.heap.size w w' := by
  obtain ⟨c2, c3, _, _, _, hbw, hlt, _⟩ := h.cells
  obtain ⟨b, o, rfl, hb, hc⟩ := h.dat.at (by omega)
  have b1 := h.len
  obtain ⟨b2, b3⟩ := h.lc
  have d0 : w.cell? ⟨b, o + at_, none⟩ = some (.int .u8 (nth data at_ : Nat)) := hc at_ (by omega)
  have d1 : w.cell? ⟨b, o + at_ + 1, none⟩ = some (.int .u8 (nth data (at_ + 1) : Nat)) := hc (at_ + 1) (by omega)
  have d2 : w.cell? ⟨b, o + at_ + 2, none⟩ = some (.int .u8 (nth data (at_ + 2) : Nat)) := hc (at_ + 2) (by omega)
  have haa := run_arrayAt3 b (o + at_) (data.length - at_) (cap - at_) (by omega)
  have hbl : b < w.heap.size := by omega
  clear hc h
  go_enter Tryd.func82, Tryd.ntmps82
  go_wp2_with fail
  generalize hW : w.alloc _ = w2
  have hbw2 : Below w.heap.size w w2 := by rw [← hW]; exact (Below.refl _ _).alloc (Nat.le_refl _) _
  have hblk : w2.heap[w.heap.size]? = some (.cells #[.int .u8 0, .int .u8 0, .int .u8 0] 109 (0, 0)) := by rw [← hW]; exact blk_new _ _
  have c2' := (hbw2.cell (p := ⟨bw, 2, none⟩) hlt).trans c2
  have c3' := (hbw2.cell (p := ⟨bw, 3, none⟩) hlt).trans c3
  have d0' := (hbw2.cell (p := ⟨b, o + at_, none⟩) hbl).trans d0
  have d1' := (hbw2.cell (p := ⟨b, o + at_ + 1, none⟩) hbl).trans d1
  have d2' := (hbw2.cell (p := ⟨b, o + at_ + 2, none⟩) hbl).trans d2
  have n0 : w2.cell? ⟨w.heap.size, 0, none⟩ = some (.int .u8 0) := by rw [cell_blk hblk]; rfl
  have n1 : w2.cell? ⟨w.heap.size, 1, none⟩ = some (.int .u8 0) := by rw [cell_blk hblk]; rfl
  have n2 : w2.cell? ⟨w.heap.size, 2, none⟩ = some (.int .u8 0) := by rw [cell_blk hblk]; rfl
  have f0 : w2.frozen? ⟨w.heap.size, 0, none⟩ = false := free_blk hblk
  have f1 : w2.frozen? ⟨w.heap.size, 1, none⟩ = false := free_blk hblk
  have f2 : w2.frozen? ⟨w.heap.size, 2, none⟩ = false := free_blk hblk
  generalize hS : w.heap.size = S at *
  have HB2 := hide hbw2
  have HBK := hide hblk
  clear c2 c3 d0 d1 d2 hW hbw2 hblk
  have hfin : Hid ((((w2.setCell ⟨S, 0, none⟩ (.int .u8 (nth data at_ : Nat))).setCell ⟨S, 1, none⟩ (.int .u8 (nth data (at_ + 1) : Nat))).setCell ⟨S, 2, none⟩ (.int .u8 (nth data (at_ + 2) : Nat))).drew.heap[S]? = some (.cells #[.int .u8 (nth data at_ : Nat), .int .u8 (nth data (at_ + 1) : Nat), .int .u8 (nth data (at_ + 2) : Nat)] 109 (0, 0))) := by
    unfold Hid
    exact blk_setCell _ (blk_setCell _ (blk_setCell _ HBK.out))
  go_region
  all_goals go_wp2
  refine bodyPost_ret (v := key3 (nth data at_) (nth data (at_ + 1)) (nth data (at_ + 2))) ?_ rfl ⟨rfl, ?_⟩
  · exact results_cell_row Tryd.results82 _ _ S 109 _ _ _ rfl hfin.out Tryd.underlying109 rfl (by kernel_rfl)
  · subst hS
    exact (((HB2.out.setCell (p := ⟨w.heap.size, 0, none⟩) (Nat.le_refl _) _).setCell (p := ⟨w.heap.size, 1, none⟩) (Nat.le_refl _) _).setCell (p := ⟨w.heap.size, 2, none⟩) (Nat.le_refl _) _).drew
end Go.Proofs.YtgkljcmjnphpeaaDoor
