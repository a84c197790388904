/- What filter 4 has packed, read: the blocks. -/
import Derived.Test.YtgkljcmjnphpeaaDoorProg
import Derived.WalkKit
import Derived.Stop.BytesEq
import Derived.Test.YtgkljcmjnphpeaaDoorHead
import Derived.Test.YtgkljcmjnphpeaaDoorSum
import Derived.Test.YtgkljcmjnphpeaaDoorOrd
set_option linter.unusedVariables false
set_option linter.unusedSimpArgs false
namespace Go.Proofs.YtgkljcmjnphpeaaDoor
open Go.RowKit

theorem size_byte (W : World) : (sizeOf 5).run Tryd.prog W = .ok 1 W := by kernel_rfl

theorem run_eq4 (a0 a1 a2 a3 b0 b1 b2 b3 : Nat) (h0 : a0 < 256) (h1 : a1 < 256) (h2 : a2 < 256) (h3 : a3 < 256) (k0 : b0 < 256) (k1 : b1 < 256) (k2 : b2 < 256) (k3 : b3 < 256) (W : World) :
    (Op.equalIn 10000 43 (.agg #[.int .u8 (a0 : Int), .int .u8 (a1 : Int), .int .u8 (a2 : Int), .int .u8 (a3 : Int)]) (.agg #[.int .u8 (b0 : Int), .int .u8 (b1 : Int), .int .u8 (b2 : Int), .int .u8 (b3 : Int)])).run Tryd.prog W = .ok (decide ([a0, a1, a2, a3] = [b0, b1, b2, b3])) W := by
  have h := run_equalIn_bytes (P := Tryd.prog) W 9998 43 5 4 Tryd.underlying43 Tryd.underlying5 size_byte [UInt8.ofNat a0, UInt8.ofNat a1, UInt8.ofNat a2, UInt8.ofNat a3] [UInt8.ofNat b0, UInt8.ofNat b1, UInt8.ofNat b2, UInt8.ofNat b3] rfl rfl
  have e : ∀ n : Nat, n < 256 → (UInt8.ofNat n).toNat = n := fun n hn => by simp [Nat.mod_eq_of_lt hn]
  have inj : ∀ m n : Nat, m < 256 → n < 256 → (UInt8.ofNat m = UInt8.ofNat n ↔ m = n) := fun m n hm hn => ⟨fun h => by rw [← e m hm, ← e n hn, h], fun h => by rw [h]⟩
  have hb : ([UInt8.ofNat a0, UInt8.ofNat a1, UInt8.ofNat a2, UInt8.ofNat a3] == [UInt8.ofNat b0, UInt8.ofNat b1, UInt8.ofNat b2, UInt8.ofNat b3]) = decide ([a0, a1, a2, a3] = [b0, b1, b2, b3]) := by
    rw [Bool.eq_iff_iff, beq_iff_eq, decide_eq_true_iff]
    simp only [List.cons.injEq, and_true, inj a0 b0 h0 k0, inj a1 b1 h1 k1, inj a2 b2 h2 k2, inj a3 b3 h3 k3]
  rw [hb] at h
  simp only [List.map_cons, List.map_nil, Extern.Stop.cell, e _ h0, e _ h1, e _ h2, e _ h3, e _ k0, e _ k1, e _ k2, e _ k3] at h
  rw [show (9998 + 2 : Nat) = 10000 from rfl] at h
  exact h
end Go.Proofs.YtgkljcmjnphpeaaDoor
namespace Go.Proofs.YtgkljcmjnphpeaaDoor
open Go.RowKit
variable {B br bf bd off cap : Nat} {d : List Nat} {most : Nat} {fixed : List Value} {w : World} {p held left window : Nat} {ov : Value} {out : List Nat}

/-- Bytes as they are, in a block's bits. -/
structure StoredAt (most : Nat) (r : List Bool) (out D : List Nat) (r' : List Bool) : Prop where
  h0 : 0 < D.length
  h1 : D.length ≤ 65535
  h2 : ∀ i, i < D.length → nth D i < 256
  h3 : r.drop (r.length % 8) = Fo.numBits 16 D.length ++ (Fo.numBits 16 (65535 - D.length) ++ (Fo.bitsOf D ++ r'))
  h4 : r'.length % 8 = 0
  h5 : out.length + D.length ≤ most

/-- Blocks up to the last one, as a packer makes them. -/
def Blocks (window most : Nat) (r : List Bool) (out : List Nat) (r' : List Bool) (out' : List Nat) : Prop :=
  ∀ P : List Bool → List Nat → List Bool → List Nat → Prop,
    (∀ r r' out out', Fo.PartsTo Fo.fixedC window most r out (.ok (r', out')) → P (true :: (Fo.numBits 2 1 ++ r)) out r' out') →
    (∀ r r' out D, StoredAt most r out D r' → P (true :: (Fo.numBits 2 0 ++ r)) out r' (out ++ D)) →
    (∀ r r' r'' out out'' D, StoredAt most r out D r' → P r' (out ++ D) r'' out'' → P (false :: (Fo.numBits 2 0 ++ r)) out r'' out'') → P r out r' out'
section
variable {window most : Nat} {r r' r'' : List Bool} {out out' out'' : List Nat}
theorem Blocks.lastFixed (h : Fo.PartsTo Fo.fixedC window most r out (.ok (r', out'))) : Blocks window most (true :: (Fo.numBits 2 1 ++ r)) out r' out' := fun _ h1 _ _ => h1 _ _ _ _ h
theorem Blocks.lastStored (D : List Nat) (h0 : 0 < D.length) (h1 : D.length ≤ 65535) (h2 : ∀ i, i < D.length → nth D i < 256) (h3 : r.drop (r.length % 8) = Fo.numBits 16 D.length ++ (Fo.numBits 16 (65535 - D.length) ++ (Fo.bitsOf D ++ r'))) (h4 : r'.length % 8 = 0) (h5 : out.length + D.length ≤ most) :
    Blocks window most (true :: (Fo.numBits 2 0 ++ r)) out r' (out ++ D) := fun _ _ k _ => k _ _ _ _ ⟨h0, h1, h2, h3, h4, h5⟩
theorem Blocks.moreStored (D : List Nat) (h0 : 0 < D.length) (h1 : D.length ≤ 65535) (h2 : ∀ i, i < D.length → nth D i < 256) (h3 : r.drop (r.length % 8) = Fo.numBits 16 D.length ++ (Fo.numBits 16 (65535 - D.length) ++ (Fo.bitsOf D ++ r'))) (h4 : r'.length % 8 = 0) (h5 : out.length + D.length ≤ most)
    (h6 : Blocks window most r' (out ++ D) r'' out'') : Blocks window most (false :: (Fo.numBits 2 0 ++ r)) out r'' out'' := fun P a b c => c _ _ _ _ _ _ ⟨h0, h1, h2, h3, h4, h5⟩ (h6 P a b c)
/-- What blocks begin with. -/
def BlocksHead (window most : Nat) (rr : List Bool) (out : List Nat) (r'' : List Bool) (out'' : List Nat) : Prop :=
  (∃ r, rr = true :: (Fo.numBits 2 1 ++ r) ∧ Fo.PartsTo Fo.fixedC window most r out (.ok (r'', out''))) ∨ (∃ r D, rr = true :: (Fo.numBits 2 0 ++ r) ∧ out'' = out ++ D ∧ StoredAt most r out D r'') ∨
    (∃ r r' D, rr = false :: (Fo.numBits 2 0 ++ r) ∧ StoredAt most r out D r' ∧ Blocks window most r' (out ++ D) r'' out'')
theorem Blocks.parted (h : Blocks window most r out r' out') : BlocksHead window most r out r' out' :=
  (h (fun r out r' out' => Blocks window most r out r' out' ∧ BlocksHead window most r out r' out')
    (fun r _ _ _ hp => ⟨.lastFixed hp, Or.inl ⟨r, rfl, hp⟩⟩)
    (fun r _ _ D hs => ⟨.lastStored D hs.h0 hs.h1 hs.h2 hs.h3 hs.h4 hs.h5, Or.inr (Or.inl ⟨r, D, rfl, rfl, hs⟩)⟩)
    (fun r r' _ _ _ D hs hk => ⟨.moreStored D hs.h0 hs.h1 hs.h2 hs.h3 hs.h4 hs.h5 hk.1, Or.inr (Or.inr ⟨r, r', D, rfl, hs, hk.1⟩)⟩)).2
end

theorem Fix.kept {w' : World} (h : Fix w br bf fixed) (k : Kept 5 B [br, bf] w w') : Fix w' br bf fixed := by
  obtain ⟨g1, c1, g2, c2, he, i1, i2, n1, n2, n3, n4⟩ := h.ex
  exact ⟨g1, c1, g2, c2, he, i1.kept k (by simp [n1, n2]), i2.kept k (by simp [n3, n4]), n1, n2, n3, n4⟩

theorem build57_lit (a0 a1 a2 a3 a4 a5 a6 a7 a8 a9 a10 a11 a12 a13 a14 a15 a16 b0 b1 b2 b3 b4 b5 b6 b7 b8 b9 b10 b11 b12 b13 b14 b15 b16 : Value) (W : World) (b : Nat) : (Instr.build 57 #[(0, .agg #[.pointer (some ⟨b, 0, none⟩), .int .u8 0, .int .i64 0]), (2, .agg #[a0, a1, a2, a3, a4, a5, a6, a7, a8, a9, a10, a11, a12, a13, a14, a15, a16, b0, b1, b2, b3, b4, b5, b6, b7, b8, b9, b10, b11, b12, b13, b14, b15, b16])]).run Tryd.prog W = .ok (.agg #[.pointer (some ⟨b, 0, none⟩), .int .u8 0, .int .i64 0, .int .i64 0, a0, a1, a2, a3, a4, a5, a6, a7, a8, a9, a10, a11, a12, a13, a14, a15, a16, b0, b1, b2, b3, b4, b5, b6, b7, b8, b9, b10, b11, b12, b13, b14, b15, b16]) W := by kernel_rfl

theorem list38 (X : List Value) (W : World) (b : Nat) (hx : X.length = 34) : (Instr.build 57 #[(0, .agg #[.pointer (some ⟨b, 0, none⟩), .int .u8 0, .int .i64 0]), (2, .agg X.toArray)]).run Tryd.prog W = .ok (.agg (Value.pointer (some ⟨b, 0, none⟩) :: .int .u8 0 :: .int .i64 0 :: .int .i64 0 :: X).toArray) W := by
  have h1 : (X.take 17).length = 17 := by rw [List.length_take]; omega
  have h2 : (X.drop 17).length = 17 := by rw [List.length_drop]; omega
  rw [← List.take_append_drop 17 X]
  generalize X.take 17 = Y at h1
  generalize X.drop 17 = Z at h2
  obtain ⟨a0, a1, a2, a3, a4, a5, a6, a7, a8, a9, a10, a11, a12, a13, a14, a15, a16, rfl⟩ := list17 Y h1
  obtain ⟨b0, b1, b2, b3, b4, b5, b6, b7, b8, b9, b10, b11, b12, b13, b14, b15, b16, rfl⟩ := list17 Z h2
  exact build57_lit a0 a1 a2 a3 a4 a5 a6 a7 a8 a9 a10 a11 a12 a13 a14 a15 a16 b0 b1 b2 b3 b4 b5 b6 b7 b8 b9 b10 b11 b12 b13 b14 b15 b16 W b

/-- Bytes in memory, whatever their address. -/
theorem Rd.datOut (h : Rd B br bd off cap d most w p ov out) (hb : ∀ i, i < out.length → nth out i < 256) : ∃ ao c, ov = .slice ao out.length c ∧ Dat w w.heap.size ao out := by
  rcases h.own.2 with ⟨e1, e2⟩ | ⟨g, c, cur, e1, _, hh, hc⟩
  · exact ⟨none, 0, by rw [e1, e2], fun i hi => by omega⟩
  · refine ⟨_, c, e1, fun i hi => ⟨g, 0, rfl, lt_of_block hh, ?_⟩⟩
    have hown := h.own
    rw [e1] at hown
    have := hown.cellAt i (by omega)
    rw [Nat.zero_add, this]
    simp [nth, hi]

theorem Rd.datOut' {ao : Option Addr} {oc : Nat} (h : Rd B br bd off cap d most w p (.slice ao out.length oc) out) : Dat w w.heap.size ao out := by
  rcases h.own.2 with ⟨e1, e2⟩ | ⟨g, c, cur, e1, _, hh, hc⟩
  · intro i hi; omega
  · cases e1
    refine fun i hi => ⟨g, 0, rfl, lt_of_block hh, ?_⟩
    have := h.own.cellAt i (by omega)
    rw [Nat.zero_add, this]
    simp [nth, hi]

theorem must_no' (b : Bool) (hb : b = false) (w : World) : Calls Tryd.prog 39 #[.bool b] w fun e w' => e = .panicked [{ v := .iface 26 (.int .i64 5), recovered := false }] ∧ w' = w := by
  subst hb; exact must_no w

theorem run_arrayAt4 (b o c : Nat) (W : World) : (Instr.arrayAt 43 (.slice (some ⟨b, o, none⟩) 4 c)).run Tryd.prog W = .ok (.pointer (some ⟨b, o, none⟩)) W := by kernel_rfl

theorem eq_no (a0 a1 a2 a3 : Nat) (data t : List Nat) (ht4 : t.length = 4) (htb : ∀ i, i < 4 → nth t i < 256) (h0 : a0 = nth t 0) (h1 : a1 = nth t 1) (h2 : a2 = nth t 2) (h3 : a3 = nth t 3) (hne : t ≠ sum4 data) (W : World) :
    (Op.equalIn 10000 43 (.agg #[.int .u8 (a0 : Int), .int .u8 (a1 : Int), .int .u8 (a2 : Int), .int .u8 (a3 : Int)]) (.agg #[.int .u8 (((sumAB data).2 : Int) / 256), .int .u8 (((sumAB data).2 : Int) % 256), .int .u8 (((sumAB data).1 : Int) / 256), .int .u8 (((sumAB data).1 : Int) % 256)])).run Tryd.prog W = .ok false W := by
  have hs := sumAB_lt data
  have h := run_eq4 a0 a1 a2 a3 ((sumAB data).2 / 256) ((sumAB data).2 % 256) ((sumAB data).1 / 256) ((sumAB data).1 % 256) (by rw [h0]; exact htb 0 (by omega)) (by rw [h1]; exact htb 1 (by omega)) (by rw [h2]; exact htb 2 (by omega)) (by rw [h3]; exact htb 3 (by omega)) (by omega) (by omega) (by omega) (by omega) W
  have e : decide ([a0, a1, a2, a3] = [(sumAB data).2 / 256, (sumAB data).2 % 256, (sumAB data).1 / 256, (sumAB data).1 % 256]) = false := by
    rw [decide_eq_false_iff_not]
    intro he
    apply hne
    rw [sum4, ← he, h0, h1, h2, h3]
    match t, ht4 with
    | [x0, x1, x2, x3], _ => rfl
  rw [e] at h
  simpa using h

theorem kept_through {e br bf : Nat} {w1 w' : World} (b : Below w.heap.size w w1) (k : Kept e B [br, bf] w1 w') (hbf : w.heap.size ≤ bf) : Kept e B [br] w w' :=
  ⟨k.os.trans b.os, k.tape.trans b.tape, k.output.trans b.output, Nat.le_trans b.size k.size, fun i o hi ho hc => k.block i o (by
    have := lt_of_block ho
    simp at hi ⊢; exact ⟨hi, by omega⟩) (by rw [b.block i (lt_of_block ho)]; exact ho) hc⟩

/-- What the test of the sum reads. -/
def Sfl (bf br bd o : Nat) (ptr sl : Value) (d : List Nat) (p : Nat) (_L : Array Bool) (W : World) : Prop :=
  W.cell? ⟨bf, 0, none⟩ = some ptr ∧ W.cell? ⟨br, 2, none⟩ = some sl ∧ W.cell? ⟨bd, o, none⟩ = some (.int .u8 (nth d p : Nat)) ∧ W.cell? ⟨bd, o + 1, none⟩ = some (.int .u8 (nth d (p + 1) : Nat)) ∧ W.cell? ⟨bd, o + 2, none⟩ = some (.int .u8 (nth d (p + 2) : Nat)) ∧ W.cell? ⟨bd, o + 3, none⟩ = some (.int .u8 (nth d (p + 3) : Nat))
theorem sfl {L : Array Bool} {p0 : Nat} (h : Bi B br bf bd off cap d most fixed w p held left window ov out) (hp : p0 + 4 ≤ d.length) : Sfl bf br bd (off + p0) (.pointer (some ⟨br, 0, none⟩)) ov d p0 L w := by
  refine ⟨h.c0, h.rd.c2, h.rd.dat p0 (by omega), ?_, ?_, ?_⟩
  · rw [Nat.add_assoc]; exact h.rd.dat (p0 + 1) (by omega)
  · rw [Nat.add_assoc]; exact h.rd.dat (p0 + 2) (by omega)
  · rw [Nat.add_assoc]; exact h.rd.dat (p0 + 3) (by omega)

theorem Rd.ofBelow {w1 : World} (h : Rd B br bd off cap d most w p ov out) (b : Below w.heap.size w w1) : Rd B br bd off cap d most w1 p ov out := by
  have hsz := h.sz
  have hB := h.hB
  refine ⟨h.hB, h.hb, ?_, ?_, ?_, h.byt, h.cp, h.lc, h.lm, h.lo, h.lp⟩
  · rw [b.block _ (lt_of_block h.blk)]; exact h.blk
  · intro i hi; rw [b.cell (p := ⟨bd, off + i, none⟩) (by show bd < _; omega)]; exact h.dat i hi
  · obtain ⟨h1, h2⟩ := h.own
    refine ⟨h1, ?_⟩
    rcases h2 with h2 | ⟨g, c, cur, e1, e2, hh, hc⟩
    · exact Or.inl h2
    · exact Or.inr ⟨g, c, cur, e1, e2, by rw [b.block _ (lt_of_block hh)]; exact hh, hc⟩

theorem Bi.start {w1 : World} {F : List Value} (h : Rd B br bd off cap d most w1 0 ov []) :
    Bi B br w1.heap.size bd off cap d most F (w1.alloc (.cells (Value.pointer (some ⟨br, 0, none⟩) :: .int .u8 0 :: .int .i64 0 :: .int .i64 0 :: F).toArray 57 (0, 0))) 0 0 0 0 ov [] :=
  ⟨h.alloc _, by have := h.sz; omega, blk_new _ _, by omega, by omega⟩

theorem Fix.start {w1 : World} {g1 g2 : Nat} (i1 : IntRow w1 g1 Fo.ssF) (i2 : IntRow w1 g2 Fo.sdF) (o : Obj) (n1 : g1 ≠ br) (n2 : g2 ≠ br) : Fix (w1.alloc o) br w1.heap.size (fixedCells g1 g2) := by
  obtain ⟨c1, z1, h1, e1⟩ := i1
  obtain ⟨c2, z2, h2, e2⟩ := i2
  exact ⟨g1, _, g2, _, rfl, ⟨c1, z1, blk_alloc _ h1, e1⟩, ⟨c2, z2, blk_alloc _ h2, e2⟩, n1, by have := lt_of_block h1; omega, n2, by have := lt_of_block h2; omega⟩

/-- What the next block comes to. -/
theorem block_case {rr r : List Bool} {o data : List Nat} {ov' : Value} (hf : Fl B br bf bd off cap d most fixed w rr 32768 ov' o) (hx : Fix w br bf fixed) (hb : Blocks 32768 most rr o r data) :
    (Calls Tryd.prog 37 #[.pointer (some ⟨bf, 0, none⟩)] w fun e w' => e = .returned (.bool false) ∧ ∃ ov'', Fl B br bf bd off cap d most fixed w' r 32768 ov'' data ∧ Kept 5 B [br, bf] w w') ∨
    (∃ r2 o2, (Calls Tryd.prog 37 #[.pointer (some ⟨bf, 0, none⟩)] w fun e w' => e = .returned (.bool true) ∧ ∃ ov'', Fl B br bf bd off cap d most fixed w' r2 32768 ov'' o2 ∧ Kept 5 B [br, bf] w w') ∧ r2.length < rr.length ∧ Blocks 32768 most r2 o2 r data) := by
  rcases hb.parted with ⟨r0, rfl, hp⟩ | ⟨r0, D, rfl, rfl, hs⟩ | ⟨r0, r', D, rfl, hs, hb5⟩
  · exact Or.inl (block_fixed_ok true hx hf (by omega) hp)
  · exact Or.inl (block_stored_ok true D hs.h0 hs.h1 hs.h2 hf hs.h3 hs.h4 hs.h5)
  · refine Or.inr ⟨_, _, block_stored_ok false D hs.h0 hs.h1 hs.h2 hf hs.h3 hs.h4 hs.h5, ?_, hb5⟩
    have := congrArg List.length hs.h3
    rw [List.length_drop] at this
    simp only [List.length_append, Fo.numBits_length, List.length_cons] at this ⊢
    omega

set_option maxRecDepth 100000 in
set_option maxHeartbeats 2000000 in
/-- Where what stands behind the blocks is not the sum, it is told. -/
theorem decodeFlate_bad (h : Rd B br bd off cap d most w 0 ov []) (hl : 2 ≤ d.length) (d0 : nth d 0 = 120) (d1 : nth d 1 = 156) {r : List Bool} {data : List Nat}
    (hbk : Blocks 32768 most (Fo.bitsOf (d.drop 2)) [] r data) (t : List Nat) (ht4 : t.length = 4) (htb : ∀ i, i < 4 → nth t i < 256) (hr : r.drop (r.length % 8) = Fo.bitsOf t) (hne : t ≠ sum4 data) (hdb : ∀ i, i < data.length → nth data i < 256) :
    Calls Tryd.prog 22 #[.pointer (some ⟨br, 0, none⟩)] w fun e w' => e = .panicked [{ v := .iface 26 (.int .i64 5), recovered := false }] ∧ Kept 5 B [br] w w' := by
  have HBK := hide hbk
  have HR := hide hr
  have HNE := hide hne
  clear hbk hr hne
  go_enter Tryd.func22, Tryd.ntmps22
  go_wp2_with fail
  refine fixedCodes_ok.mono ?_
  rintro e w1 ⟨g1, g2, rfl, i1, i2, b1, q1, q2⟩
  have hbuild := hide (fun W => list38 (fixedCells g1 g2) W br (fixedCells_length g1 g2))
  have tokb : True := trivial
  generalize hF : fixedCells g1 g2 = F at *
  have HF := hide hF
  clear hF
  go_wp2_with (have _t := tokb; refine wpList_build2 (by rfl) 57 0 2 (.tmp 4) (.tmp 5) (by rfl) _ _ _ (by rfl) (by rfl) hbuild.out ?_; clear tokb)
  have r1 := h.ofBelow b1
  have hbr := lt_of_block h.blk
  have hb2 := Bi.start (F := F) r1
  have hx2 := Fix.start (br := br) i1 i2 (.cells (Value.pointer (some ⟨br, 0, none⟩) :: .int .u8 0 :: .int .i64 0 :: .int .i64 0 :: F).toArray 57 (0, 0)) (by omega) (by omega)
  rw [HF.out] at hx2
  have kk0 : Below w.heap.size w (w1.alloc (.cells (Value.pointer (some ⟨br, 0, none⟩) :: .int .u8 0 :: .int .i64 0 :: .int .i64 0 :: F).toArray 57 (0, 0))) := b1.alloc b1.size _
  clear i1 i2 r1 hbuild HF q1 q2
  have hbs := b1.size
  clear b1
  refine (head_ok hb2 hl d0 d1).mono ?_
  rintro e w2 ⟨rfl, hb3, kh⟩
  have hx3 := hx2.kept kh
  have hf3 : Fl B br w1.heap.size bd off cap d most F w2 (Fo.bitsOf (d.drop 2)) 32768 ov [] := ⟨2, 0, 0, hb3, by omega, by simp [bitsLeft, Fo.numBits]⟩
  clear hb2 hx2 hb3 d0 d1
  go_wp2_with fail
  go_loopw [11] (fun _ wr => ∃ (rr : List Bool) (o : List Nat) (ov' : Value), Fl B br w1.heap.size bd off cap d most F wr rr 32768 ov' o ∧ Fix wr br w1.heap.size F ∧ Hid (Blocks 32768 most rr o r data) ∧ Kept 5 B [br, w1.heap.size] w2 wr) (fun _ wr => bitsOf' br w1.heap.size d.length wr)
  case atStart => exact ⟨_, _, ov, hf3, hx3, HBK, Kept.refl _ _ _ _⟩
  clear hf3 hx3 HBK
  case round =>
    obtain ⟨rr, o, ov', hf, hx, HB2, kk⟩ := hrel
    have hm := hide hf.measure
    have hcase := block_case hf hx HB2.out
    clear HB2
    rcases hcase with hlast | ⟨r2, o2, hmore, hsh, hb5⟩
    · have HL := hide hlast
      clear hlast hm
      go_wp2_with fail
      refine HL.out.mono ?_
      rintro e w3 ⟨rfl, ov3, hf3, k3⟩
      have k23 := kk.trans k3
      clear kk k3 HL hf hx
      go_wp2_with fail
      refine (align_ok hf3).mono ?_
      rintro e w4 ⟨rfl, ⟨p4, held4, hb4, hq4⟩, k4⟩
      rw [HR.out] at hq4
      have k24 := k23.trans k4
      clear k23 k4 hf3
      obtain ⟨z1, z2, z3⟩ := hb4.bytes t (by rw [ht4]; exact htb) [] (by rw [hq4]; simp)
      have c0 := hb4.c0
      have c2 := hb4.rd.c2
      obtain ⟨ao, oc, hov, _⟩ := hb4.rd.datOut hdb
      subst hov
      have hl4 := hb4.rd.lm
      have hl5 := hb4.rd.lo
      rw [ht4] at z1 z2
      have y0 := z2 0 (by omega)
      have y1 := z2 1 (by omega)
      have y2 := z2 2 (by omega)
      have y3 := z2 3 (by omega)
      have Y := hide (And.intro y0 (And.intro y1 (And.intro y2 y3)))
      clear z2 z3 y0 y1 y2 y3 hq4
      have hl6 : data.length ≤ 1000000000 := by omega
      have haa := run_arrayAt4 bd (off + p4) (cap - p4)
      have heq := eq_no (nth d p4) (nth d (p4 + 1)) (nth d (p4 + 2)) (nth d (p4 + 3)) data t ht4 htb (by have := Y.out.1; simpa using this) Y.out.2.1 Y.out.2.2.1 Y.out.2.2.2 HNE.out
      go_wp2_with fail
      refine wp_region_T (Sfl w1.heap.size br bd (off + p4) (.pointer (some ⟨br, 0, none⟩)) (.slice ao data.length oc) d p4) (by kernel_rfl) ?_
      intro hD
      have hS : Sfl w1.heap.size br bd (off + p4) (.pointer (some ⟨br, 0, none⟩)) (.slice ao data.length oc) d p4 (Array.replicate 19 false) w4.drew := sfl (hb4.drewN 1) z1
      refine wpAnyT_take (i := 0) (v := ?_) rfl (by kernel_rfl) (by kernel_rfl) (by kernel_rfl) (fun _ _ _ h => h) (fun _ _ h => h) (fun _ _ h => h) hD (Or.inl ⟨by rfl, ?_⟩) hS ?_
      rotate_left
      · intro W hW; obtain ⟨_, _, _, f0, f1, f2, f3, f4, f5⟩ := hW; go_simp; try (with_reducible rfl)
      clear hD hS; intro hD hS; (try simp only [Act.put, List.setIfInBounds_toArray, List.set_cons_zero, List.set_cons_succ])
      refine wpAnyT_take (i := 1) (v := ?_) rfl (by kernel_rfl) (by kernel_rfl) (by kernel_rfl) (fun _ _ _ h => h) (fun _ _ h => h) (fun _ _ h => h) hD (Or.inl ⟨by rfl, ?_⟩) hS ?_
      rotate_left
      · intro W hW; obtain ⟨_, _, _, f0, f1, f2, f3, f4, f5⟩ := hW; go_simp; try (with_reducible rfl)
      clear hD hS; intro hD hS; (try simp only [Act.put, List.setIfInBounds_toArray, List.set_cons_zero, List.set_cons_succ])
      refine wpAnyT_take (i := 2) (v := ?_) rfl (by kernel_rfl) (by kernel_rfl) (by kernel_rfl) (fun _ _ _ h => h) (fun _ _ h => h) (fun _ _ h => h) hD (Or.inl ⟨by rfl, ?_⟩) hS ?_
      rotate_left
      · intro W hW; obtain ⟨_, _, _, f0, f1, f2, f3, f4, f5⟩ := hW; go_simp; try (with_reducible rfl)
      clear hD hS; intro hD hS; (try simp only [Act.put, List.setIfInBounds_toArray, List.set_cons_zero, List.set_cons_succ])
      refine wpAnyT_take (i := 3) (v := ?_) rfl (by kernel_rfl) (by kernel_rfl) (by kernel_rfl) (fun _ _ _ h => h) (fun _ _ h => h) (fun _ _ h => h) hD (Or.inl ⟨by rfl, ?_⟩) hS ?_
      rotate_left
      · intro W hW; obtain ⟨_, _, _, f0, f1, f2, f3, f4, f5⟩ := hW; go_simp; try (with_reducible rfl)
      clear hD hS; intro hD hS; (try simp only [Act.put, List.setIfInBounds_toArray, List.set_cons_zero, List.set_cons_succ])
      refine wpAnyT_take (i := 4) (v := ?_) rfl (by kernel_rfl) (by kernel_rfl) (by kernel_rfl) (fun _ _ _ h => h) (fun _ _ h => h) (fun _ _ h => h) hD (Or.inl ⟨by rfl, ?_⟩) hS ?_
      rotate_left
      · intro W hW; obtain ⟨_, _, _, f0, f1, f2, f3, f4, f5⟩ := hW; go_simp; try (with_reducible rfl)
      clear hD hS; intro hD hS; (try simp only [Act.put, List.setIfInBounds_toArray, List.set_cons_zero, List.set_cons_succ])
      refine wpAnyT_take (i := 8) (v := ?_) rfl (by kernel_rfl) (by kernel_rfl) (by kernel_rfl) (fun _ _ _ h => h) (fun _ _ h => h) (fun _ _ h => h) hD (Or.inl ⟨by rfl, ?_⟩) hS ?_
      rotate_left
      · intro W hW; obtain ⟨_, _, _, f0, f1, f2, f3, f4, f5⟩ := hW; go_simp; try (with_reducible rfl)
      clear hD hS; intro hD hS; (try simp only [Act.put, List.setIfInBounds_toArray, List.set_cons_zero, List.set_cons_succ])
      refine wpAnyT_take (i := 9) (v := ?_) rfl (by kernel_rfl) (by kernel_rfl) (by kernel_rfl) (fun _ _ _ h => h) (fun _ _ h => h) (fun _ _ h => h) hD (Or.inl ⟨by rfl, ?_⟩) hS ?_
      rotate_left
      · intro W hW; obtain ⟨_, _, _, f0, f1, f2, f3, f4, f5⟩ := hW; go_simp; try (with_reducible rfl)
      clear hD hS; intro hD hS; (try simp only [Act.put, List.setIfInBounds_toArray, List.set_cons_zero, List.set_cons_succ])
      refine wpAnyT_take (i := 10) (v := ?_) rfl (by kernel_rfl) (by kernel_rfl) (by kernel_rfl) (fun _ _ _ h => h) (fun _ _ h => h) (fun _ _ h => h) hD (Or.inl ⟨by rfl, ?_⟩) hS ?_
      rotate_left
      · intro W hW; obtain ⟨_, _, _, f0, f1, f2, f3, f4, f5⟩ := hW; go_simp; try (with_reducible rfl)
      clear hD hS; intro hD hS; (try simp only [Act.put, List.setIfInBounds_toArray, List.set_cons_zero, List.set_cons_succ])
      refine wpAnyT_take (i := 11) (v := ?_) rfl (by kernel_rfl) (by kernel_rfl) (by kernel_rfl) (fun _ _ _ h => h) (fun _ _ h => h) (fun _ _ h => h) hD (Or.inl ⟨by rfl, ?_⟩) hS ?_
      rotate_left
      · intro W hW; obtain ⟨_, _, _, f0, f1, f2, f3, f4, f5⟩ := hW; go_simp; try (with_reducible rfl)
      clear hD hS; intro hD hS; (try simp only [Act.put, List.setIfInBounds_toArray, List.set_cons_zero, List.set_cons_succ])
      refine wpAnyT_take (i := 12) (v := ?_) rfl (by kernel_rfl) (by kernel_rfl) (by kernel_rfl) (fun _ _ _ h => h) (fun _ _ h => h) (fun _ _ h => h) hD (Or.inl ⟨by rfl, ?_⟩) hS ?_
      rotate_left
      · intro W hW; obtain ⟨_, _, _, f0, f1, f2, f3, f4, f5⟩ := hW; go_simp; try (with_reducible rfl)
      clear hD hS; intro hD hS; (try simp only [Act.put, List.setIfInBounds_toArray, List.set_cons_zero, List.set_cons_succ])
      refine wpAnyT_take (i := 13) (v := ?_) rfl (by kernel_rfl) (by kernel_rfl) (by kernel_rfl) (fun _ _ _ h => h) (fun _ _ h => h) (fun _ _ h => h) hD (Or.inl ⟨by rfl, ?_⟩) hS ?_
      rotate_left
      · intro W hW; obtain ⟨_, _, _, f0, f1, f2, f3, f4, f5⟩ := hW; go_simp; try (with_reducible rfl)
      clear hD hS; intro hD hS; (try simp only [Act.put, List.setIfInBounds_toArray, List.set_cons_zero, List.set_cons_succ])
      refine wpAnyT_take (i := 14) (v := ?_) rfl (by kernel_rfl) (by kernel_rfl) (by kernel_rfl) (fun _ _ _ h => h) (fun _ _ h => h) (fun _ _ h => h) hD (Or.inl ⟨by rfl, ?_⟩) hS ?_
      rotate_left
      · intro W hW; obtain ⟨_, _, _, f0, f1, f2, f3, f4, f5⟩ := hW; go_simp; try (with_reducible rfl)
      clear hD hS; intro hD hS; (try simp only [Act.put, List.setIfInBounds_toArray, List.set_cons_zero, List.set_cons_succ])
      refine wpAnyT_take (i := 15) (v := ?_) rfl (by kernel_rfl) (by kernel_rfl) (by kernel_rfl) (fun _ _ _ h => h) (fun _ _ h => h) (fun _ _ h => h) hD (Or.inl ⟨by rfl, ?_⟩) hS ?_
      rotate_left
      · intro W hW; obtain ⟨_, _, _, f0, f1, f2, f3, f4, f5⟩ := hW; go_simp; try (with_reducible rfl)
      clear hD hS; intro hD hS; (try simp only [Act.put, List.setIfInBounds_toArray, List.set_cons_zero, List.set_cons_succ])
      refine wpAnyT_one (i := 5) (by kernel_rfl) rfl hD (fun K' hK => ?_)
      go_simp
      refine (take_ok (hb4.rd.drewN 1) 4 (by omega) z1).mono ?_
      rintro e w5 ⟨rfl, r5, k5⟩
      have h5 := hb4.rdKept r5 (((Kept.refl _ _ _ _).drewN 1).trans k5)
      refine hK.out _ _ (sfl h5 z1) (fun hD2 hS2 => ?_)
      clear hD hS hK K'
      have hD := hD2
      have hS := hS2
      clear hD2 hS2
      (try simp only [Act.put, List.setIfInBounds_toArray, List.set_cons_zero, List.set_cons_succ])
      refine wpAnyT_take (i := 6) (v := ?_) rfl (by kernel_rfl) (by kernel_rfl) (by kernel_rfl) (fun _ _ _ h => h) (fun _ _ h => h) (fun _ _ h => h) hD (Or.inl ⟨by rfl, ?_⟩) hS ?_
      rotate_left
      · intro W hW; obtain ⟨_, _, _, f0, f1, f2, f3, f4, f5⟩ := hW; go_simp; try (with_reducible rfl)
      clear hD hS; intro hD hS; (try simp only [Act.put, List.setIfInBounds_toArray, List.set_cons_zero, List.set_cons_succ])
      refine wpAnyT_take (i := 7) (v := ?_) rfl (by kernel_rfl) (by kernel_rfl) (by kernel_rfl) (fun _ _ _ h => h) (fun _ _ h => h) (fun _ _ h => h) hD (Or.inl ⟨by rfl, ?_⟩) hS ?_
      rotate_left
      · intro W hW; obtain ⟨_, _, _, f0, f1, f2, f3, f4, f5⟩ := hW; go_simp; try (with_reducible rfl)
      clear hD hS; intro hD hS; (try simp only [Act.put, List.setIfInBounds_toArray, List.set_cons_zero, List.set_cons_succ])
      refine wpAnyT_one (i := 16) (by kernel_rfl) rfl hD (fun K' hK => ?_)
      go_simp
      refine (sum_ok (B := w5.heap.size) (w := w5) ao oc data (Nat.le_refl _) (Rd.datOut' r5) hl6 hdb).mono ?_
      rintro e w6 ⟨rfl, o6, rfl⟩
      refine hK.out _ _ (sfl (h5.alloc o6) z1) (fun hD2 hS2 => ?_)
      clear hD hS hK K'
      have hD := hD2
      have hS := hS2
      clear hD2 hS2
      unfold sumVal
      (try simp only [Act.put, List.setIfInBounds_toArray, List.set_cons_zero, List.set_cons_succ])
      refine wpAnyT_take (i := 17) (v := ?_) rfl (by kernel_rfl) (by kernel_rfl) (by kernel_rfl) (fun _ _ _ h => h) (fun _ _ h => h) (fun _ _ h => h) hD (Or.inl ⟨by rfl, ?_⟩) hS ?_
      rotate_left
      · intro W hW; obtain ⟨_, _, _, f0, f1, f2, f3, f4, f5⟩ := hW; go_simp; try (with_reducible rfl)
      clear hD hS; intro hD hS; (try simp only [Act.put, List.setIfInBounds_toArray, List.set_cons_zero, List.set_cons_succ])
      refine wpAnyT_one (i := 18) (by kernel_rfl) rfl hD (fun K' hK => ?_)
      go_simp
      refine (must_no _).mono ?_
      rintro e w7 ⟨rfl, rfl⟩
      exact ⟨rfl, rfl, kept_through kk0 (((kh.trans k24).drewN 1).trans ((k5.mono (by simp)).alloc o6)) hbs⟩
    · have HM := hide hmore
      have HB5 := hide hb5
      clear hmore hb5
      go_wp2_with fail
      refine HM.out.mono ?_
      rintro e w3 ⟨rfl, ov3, hf3, k3⟩
      have hm2 := hide hf3.measure
      have hx3 := hx.kept k3
      go_wp2
      go_roundw
      case rel => exact ⟨_, _, ov3, hf3, hx3, HB5, kk.trans k3⟩
      case measure => rw [hm.out, hm2.out]; exact hsh
end Go.Proofs.YtgkljcmjnphpeaaDoor
