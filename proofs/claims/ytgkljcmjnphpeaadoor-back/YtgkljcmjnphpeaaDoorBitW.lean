/- A writer of bits in memory. -/
import Derived.Test.YtgkljcmjnphpeaaDoorRd
import Derived.Test.YtgkljcmjnphpeaaDoorAp
import Derived.Test.YtgkljcmjnphpeaaDoorB64
import Derived.Test.YtgkljcmjnphpeaaDoorPuBlocks
import Derived.BigRegion
import Derived.StillTailTactics
set_option linter.unusedVariables false
set_option linter.unusedSimpArgs false
namespace Go.Proofs.YtgkljcmjnphpeaaDoor
open Go.RowKit
variable {w : World}

/-- A writer of bits in memory, at the head of block bw (of type T, with the cells rest behind it): its bytes. -/
structure Wq (B bw T : Nat) (rest : List Value) (w : World) (ov : Value) (out : List Nat) (used : Nat) : Prop where
  hb : B ≤ bw
  hT : T ≠ 5
  blk : w.heap[bw]? = some (.cells (ov :: .int .i64 used :: rest).toArray T (0, 0))
  own : w.ownsRow B 5 1 ov out.length (out.map fun x : Nat => .int .u8 (x : Int))

/-- And the bits bs that they say. -/
structure Wr (B bw T : Nat) (rest : List Value) (w : World) (bs : List Bool) (ov : Value) (out : List Nat) (used : Nat) : Prop where
  q : Wq B bw T rest w ov out used
  bits : Fo.BW out used bs

variable {B bw T : Nat} {rest : List Value} {ov : Value} {out : List Nat} {used : Nat} {bs : List Bool}
theorem Wq.c0 (h : Wq B bw T rest w ov out used) : w.cell? ⟨bw, 0, none⟩ = some ov := by rw [cell_blk h.blk]; simp
theorem Wq.c1 (h : Wq B bw T rest w ov out used) : w.cell? ⟨bw, 1, none⟩ = some (.int .i64 used) := by rw [cell_blk h.blk]; simp
theorem Wq.fz (h : Wq B bw T rest w ov out used) (i : Nat) : w.frozen? ⟨bw, i, none⟩ = false := free_blk h.blk
theorem Wq.drewN (h : Wq B bw T rest w ov out used) (n : Nat) : Wq B bw T rest (w.drewN n) ov out used := ⟨h.hb, h.hT, h.blk, h.own⟩
theorem Wq.drew (h : Wq B bw T rest w ov out used) : Wq B bw T rest w.drew ov out used := ⟨h.hb, h.hT, h.blk, h.own⟩
theorem Wr.drew (h : Wr B bw T rest w bs ov out used) : Wr B bw T rest w.drew bs ov out used := ⟨h.q.drew, h.bits⟩
theorem Wr.drewN (h : Wr B bw T rest w bs ov out used) (n : Nat) : Wr B bw T rest (w.drewN n) bs ov out used := ⟨h.q.drewN n, h.bits⟩
theorem Wq.sz (h : Wq B bw T rest w ov out used) : B < w.heap.size := by have := h.hb; have := lt_of_block h.blk; omega
theorem Wq.set1 (h : Wq B bw T rest w ov out used) (u : Nat) : Wq B bw T rest (w.setCell ⟨bw, 1, none⟩ (.int .i64 u)) ov out u := by
  refine ⟨h.hb, h.hT, ?_, ?_⟩
  · rw [blk_setCell _ h.blk]; simp
  · exact ownsRow_setCell_other h.own (own_ne h.own h.blk h.hT) _

theorem own_form {w : World} {B e n size : Nat} {v : Value} {xs : List Value} (h : w.ownsRow B e size v n xs) (hn : 0 < n) : ∃ g c, v = .slice (some ⟨g, 0, none⟩) n c ∧ B ≤ g := by
  rcases h.2 with ⟨_, h0⟩ | ⟨g, cap, cur, hv, hb, _⟩
  · omega
  · exact ⟨g, cap, hv, hb⟩

/-- How long what a writer holds is. -/
theorem bw_len (h : Fo.BW out used bs) : out.length = (bs.length + 7) / 8 := by
  obtain ⟨h1, h2, _, h4⟩ := h
  have := congrArg List.length h4
  rw [Fo.bitsOf_length, List.length_append, List.length_replicate] at this
  omega

/-- One byte laid over the last. -/
theorem Wq.put {g c : Nat} {pre : List Nat} {last : Nat} (h : Wq B bw T rest w (.slice (some ⟨g, 0, none⟩) (pre ++ [last]).length c) (pre ++ [last]) used) (x u : Nat) :
    Wq B bw T rest ((w.setCell ⟨g, pre.length, none⟩ (.int .u8 x)).setCell ⟨bw, 1, none⟩ (.int .i64 u)).drew (.slice (some ⟨g, 0, none⟩) (pre ++ [x]).length c) (pre ++ [x]) u ∧ Kept 5 B [bw] w ((w.setCell ⟨g, pre.length, none⟩ (.int .u8 x)).setCell ⟨bw, 1, none⟩ (.int .i64 u)).drew := by
  have hne : bw ≠ g := fun e => own_ne h.own h.blk h.hT (by rw [e]; rfl)
  obtain ⟨hBg, cur, fz, hrow⟩ := own_row h.own g rfl
  refine ⟨Wq.drew ⟨h.hb, h.hT, ?_, ?_⟩, Kept.drew ?_⟩
  · have h1 : (w.setCell ⟨g, pre.length, none⟩ (.int .u8 x)).heap[bw]? = some (.cells (Value.slice (some ⟨g, 0, none⟩) (pre ++ [last]).length c :: .int .i64 used :: rest).toArray T (0, 0)) := by rw [blk_setCell_ne _ hne]; exact h.blk
    rw [blk_setCell _ h1]; simp
  · have h2 := h.own.stored pre.length (.int .u8 x)
    have e1 : (((pre ++ [last]).map fun x : Nat => Value.int .u8 (x : Int)).set pre.length (.int .u8 x)) = ((pre ++ [x]).map fun x : Nat => Value.int .u8 (x : Int)) := by
      simp [List.set_append]
    rw [e1] at h2
    have e2 : (pre ++ [last]).length = (pre ++ [x]).length := by simp
    rw [e2] at h2
    exact ownsRow_setCell_other h2.1 (by simp [Value.ownBlock]; omega) _
  · refine Kept.setCell ?_ (by simp) _
    refine ⟨rfl, rfl, rfl, by simp [World.setCell], fun k o hk ho hc => ?_⟩
    rw [blk_setCell_ne _ (fun e => ?_)]
    · exact ho
    · subst e
      rw [hrow] at ho
      rcases hc with hc | hc
      · omega
      · exact hc cur fz (Option.some.inj ho).symm

/-- A row laid behind what there is. -/
theorem Wq.app {w1 : World} {v : Value} {xs : List Nat} (h : Wq B bw T rest w ov out used)
    (hown : w1.ownsRow B 5 1 v (out.length + xs.length) ((out.map fun x : Nat => .int .u8 (x : Int)) ++ (xs.map fun x : Nat => .int .u8 (x : Int)))) (hg : w.grownBy w1 ov.ownBlock) :
    Wq B bw T rest (w1.setCell ⟨bw, 0, none⟩ v) v (out ++ xs) used ∧ Kept 5 B [bw] w (w1.setCell ⟨bw, 0, none⟩ v) ∧ w1.cell? ⟨bw, 0, none⟩ = some ov ∧ w1.frozen? ⟨bw, 0, none⟩ = false := by
  have hk : w1.heap[bw]? = some (.cells (ov :: .int .i64 used :: rest).toArray T (0, 0)) := by
    rw [hg.block bw (lt_of_block h.blk) (fun c => own_ne h.own h.blk h.hT c.symm)]; exact h.blk
  refine ⟨⟨h.hb, h.hT, ?_, ?_⟩, ((Kept.refl 5 B [bw] w).grown hg (own_row h.own)).setCell (by simp) _, by rw [cell_blk hk]; simp, free_blk hk⟩
  · rw [blk_setCell _ hk]; simp
  · rw [List.length_append, List.map_append]
    exact ownsRow_setCell_other hown (own_ne hown hk h.hT) _

theorem Wq.alloc (h : Wq B bw T rest w ov out used) (o : Obj) : Wq B bw T rest (w.alloc o) ov out used := ⟨h.hb, h.hT, blk_alloc _ h.blk, h.own.alloc _⟩
theorem Wr.alloc (h : Wr B bw T rest w bs ov out used) (o : Obj) : Wr B bw T rest (w.alloc o) bs ov out used := ⟨h.q.alloc o, h.bits⟩

theorem or_byte (x u : Nat) (b : Bool) (hx : x < 256) (hu : u < 8) : bits .or .u8 (x : Int) (wrap64 ((b.toNat : Int) * 2 ^ u) % 256) = ((x ||| (b.toNat <<< u) : Nat) : Int) := by
  have h1 : 2 ^ u ≤ 2 ^ 7 := Nat.pow_le_pow_right (by omega) (by omega)
  have h2 : b.toNat * 2 ^ u ≤ 1 * 2 ^ u := Nat.mul_le_mul_right _ (by cases b <;> decide)
  have e : ((b.toNat : Int) * 2 ^ u) = ((b.toNat * 2 ^ u : Nat) : Int) := by rw [Int.natCast_mul, Int.natCast_pow]; rfl
  rw [e, wrap64_nat _ (by omega), show (((b.toNat * 2 ^ u : Nat) : Int) % 256) = ((b.toNat * 2 ^ u : Nat) : Int) by omega, u8_or_nat x _ hx (by omega), Nat.shiftLeft_eq]

set_option maxRecDepth 100000 in
set_option maxHeartbeats 1000000 in
theorem wbit_more {g c : Nat} {pre : List Nat} {last : Nat} (h : Wq B bw T rest w (.slice (some ⟨g, 0, none⟩) (pre ++ [last]).length c) (pre ++ [last]) used) (hu : 0 < used) (hu8 : used < 8) (hlast : last < 256) (hlo : pre.length ≤ 1099511627776) (b : Bool) :
    Calls Tryd.prog 64 #[.pointer (some ⟨bw, 0, none⟩), .int .i64 (b.toNat : Nat)] w fun e w' => e = .returned (.tuple #[]) ∧ ∃ ov', Wq B bw T rest w' ov' (pre ++ [last ||| b.toNat <<< used]) ((used + 1) % 8) ∧ Kept 5 B [bw] w w' := by
  have c0 := h.c0
  have c1 := h.c1
  have f1 := h.fz 1
  have hcell := h.own.cellAt pre.length (by simp)
  have hfz := h.own.frozenAt pre.length
  have hlen : (pre ++ [last]).length = pre.length + 1 := by simp
  rw [hlen] at c0
  have e1 : ((used : Int) == 0) = false := by simp; omega
  have hc2 : w.cell? ⟨g, pre.length, none⟩ = some (.int .u8 last) := by rw [hcell]; simp
  have hne : bw ≠ g := fun e => own_ne h.own h.blk h.hT (by rw [e]; rfl)
  have hne' : g ≠ bw := fun e => hne e.symm
  have HP := hide (h.put (last ||| b.toNat <<< used) ((used + 1) % 8))
  have ho := hide (or_byte last used b hlast hu8)
  have hb1 : b.toNat ≤ 1 := by cases b <;> decide
  clear hcell h hlen
  go_enter Tryd.func64, Tryd.ntmps64
  go_wp2_with fail
  go_region
  all_goals go_wp2
  all_goals (go_end0; rw [ho.out, show ((used : Int) + 1) % 8 = (((used + 1) % 8 : Nat) : Int) by omega]; exact ⟨rfl, _, HP.out.1, HP.out.2⟩)

set_option maxRecDepth 100000 in
set_option maxHeartbeats 1000000 in
theorem wbit_first (h : Wq B bw T rest w ov out 0) (hlo : out.length ≤ 1099511627776) (b : Bool) :
    Calls Tryd.prog 64 #[.pointer (some ⟨bw, 0, none⟩), .int .i64 (b.toNat : Nat)] w fun e w' => e = .returned (.tuple #[]) ∧ ∃ ov', Wq B bw T rest w' ov' (out ++ [b.toNat]) 1 ∧ Kept 5 B [bw] w w' := by
  obtain ⟨i0, hi, hz0, hz1, hz2⟩ := info_parts Tryd.infoByte
  have c0 := h.c0
  have c1 := h.c1
  have hs := h.sz
  go_enter Tryd.func64, Tryd.ntmps64
  go_wp2_with (at_builtin; refine wpList_append_own _ rfl (.tmp 13) (.tmp 14) 22 rfl B 5 i0 (.int .u8 0) 1 1 Tryd.underlying22 hi hz0 hz1 hz2 rfl (by decide) ov out.length _ rfl (h.alloc _).own ⟨w.heap.size, 0, none⟩ 1 1 [.int .u8 0] rfl (by simp) ?hnews ?hone ?h63 ?hby ?hbs ?_)
  case hnews =>
    intro j u hu
    have hj : j < 1 := by have := (List.getElem?_eq_some_iff.1 hu).1; simpa using this
    obtain rfl : j = 0 := by omega
    show (w.alloc _).cell? ⟨w.heap.size, 0 + 0, none⟩ = _
    rw [World.cell?_alloc_new]; simpa using hu
  case hone => intro u hu; simp at hu; subst hu; rfl
  case h63 => unfold maxLen; omega
  case hby => omega
  case hbs => simp; omega
  intro v' w1 hown hg0 _
  obtain ⟨q, k, d0, f0⟩ := (h.alloc _).app (xs := [0]) hown ⟨hg0.os, hg0.tape, hg0.output, hg0.size, hg0.block⟩
  have k0 := hide (((Kept.refl 5 B [bw] w).alloc _).trans k)
  clear hg0 k
  have hlen : (out ++ [0]).length = out.length + 1 := by simp
  obtain ⟨g, c, hv, hBg⟩ := own_form q.own (by simp)
  rw [hlen] at hv
  subst hv
  go_wp2_with fail
  clear c0 c1 hown d0 f0 hz0 hz1 hz2 hi h
  generalize hW : w1.setCell ⟨bw, 0, none⟩ _ = w2 at *
  clear hW
  have c0 := q.c0
  have c1 := q.c1
  have f1 := q.fz 1
  rw [← hlen] at q
  have hcell := q.own.cellAt out.length (by simp)
  have hfz := q.own.frozenAt out.length
  have hc2 : w2.cell? ⟨g, out.length, none⟩ = some (.int .u8 0) := by rw [hcell]; simp
  have hne : bw ≠ g := fun e => own_ne q.own q.blk q.hT (by rw [e]; rfl)
  have hne' : g ≠ bw := fun e => hne e.symm
  have HP := hide (q.put b.toNat 1)
  have ho := hide (or_byte 0 0 b (by omega) (by omega))
  have hb1 : b.toNat ≤ 1 := by cases b <;> decide
  clear hcell q hlen
  go_region
  all_goals go_wp2
  all_goals go_end0
  have e0 : bits .or .u8 0 (b.toNat : Int) = (b.toNat : Nat) := by cases b <;> decide
  rw [e0]
  exact ⟨rfl, _, HP.out.1, k0.out.trans HP.out.2⟩

/-- A writer of bits in memory, and what it has been given. -/
def Wx (B bw T : Nat) (rest : List Value) (w : World) (bs : List Bool) : Prop := ∃ ov out used, Wr B bw T rest w bs ov out used
theorem Wx.drew (h : Wx B bw T rest w bs) : Wx B bw T rest w.drew bs := by obtain ⟨a, b, c, d⟩ := h; exact ⟨a, b, c, d.drew⟩
theorem Wx.drewN (h : Wx B bw T rest w bs) (n : Nat) : Wx B bw T rest (w.drewN n) bs := by obtain ⟨a, b, c, d⟩ := h; exact ⟨a, b, c, d.drewN n⟩
theorem Wx.alloc (h : Wx B bw T rest w bs) (o : Obj) : Wx B bw T rest (w.alloc o) bs := by obtain ⟨a, b, c, d⟩ := h; exact ⟨a, b, c, d.alloc o⟩

theorem wbit_ok (h : Wx B bw T rest w bs) (hl : bs.length ≤ 1099511627776) (b : Bool) :
    Calls Tryd.prog 64 #[.pointer (some ⟨bw, 0, none⟩), .int .i64 (b.toNat : Nat)] w fun e w' => e = .returned (.tuple #[]) ∧ Wx B bw T rest w' (bs ++ [b]) ∧ Kept 5 B [bw] w w' := by
  obtain ⟨ov, out, used, hq, hb⟩ := h
  have hn := bw_len hb
  by_cases h0 : used = 0
  · subst h0
    refine (wbit_first hq (by omega) b).mono ?_
    rintro e w' ⟨rfl, ov', q', k⟩
    exact ⟨rfl, ⟨ov', _, _, q', hb.bit0 b⟩, k⟩
  · have hpos : 0 < out.length := by
      have := hb.2.1
      omega
    obtain ⟨pre, last, rfl⟩ : ∃ pre last, out = pre ++ [last] := ⟨out.dropLast, out.getLast (by intro e; rw [e] at hpos; simp at hpos), (List.dropLast_concat_getLast _).symm⟩
    obtain ⟨g, c, rfl, _⟩ := own_form hq.own hpos
    have hlast : last < 256 := hb.2.2.1 last (by simp)
    refine (wbit_more hq (by omega) hb.1 hlast (by simp at hn; omega) b).mono ?_
    rintro e w' ⟨rfl, ov', q', k⟩
    exact ⟨rfl, ⟨ov', _, _, q', hb.bit (by omega) b⟩, k⟩

end Go.Proofs.YtgkljcmjnphpeaaDoor
