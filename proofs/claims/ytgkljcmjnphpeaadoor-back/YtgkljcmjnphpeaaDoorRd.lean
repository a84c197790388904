/- A reader in memory, and its smallest methods: take, next. -/
import Derived.Test.YtgkljcmjnphpeaaDoorBase
import Derived.Test.YtgkljcmjnphpeaaDoorBlk
import Derived.Deep.QuietTactic
import Derived.BigQuiet
import Derived.Outline
import Derived.Deep.Light
import Derived.Deep.RegionWith
import Derived.RegionTactic
set_option linter.unusedVariables false
set_option linter.unusedSimpArgs false
namespace Go.Proofs.YtgkljcmjnphpeaaDoor
open Go.RowKit

/-- The byte at a place. -/
def nth (d : List Nat) (i : Nat) : Nat := d.getD i 0

/-- Bytes in memory below B, from an address on. -/
def Dat (w : World) (B : Nat) (ao : Option Addr) (l : List Nat) : Prop := ∀ i, i < l.length → ∃ b o, ao = some ⟨b, o, none⟩ ∧ b < B ∧ w.cell? ⟨b, o + i, none⟩ = some (.int .u8 (nth l i : Nat))

/-- A reader in memory: the block br holds it; its data d lie below B; what has come out is its own. -/
structure Rd (B br bd off cap : Nat) (d : List Nat) (most : Nat) (w : World) (p : Nat) (ov : Value) (out : List Nat) : Prop where
  hB : bd < B
  hb : B ≤ br
  blk : w.heap[br]? = some (.cells #[.slice (some ⟨bd, off, none⟩) d.length cap, .int .i64 p, ov, .int .i64 most] 41 (0, 0))
  dat : ∀ i, i < d.length → w.cell? ⟨bd, off + i, none⟩ = some (.int .u8 (nth d i : Nat))
  own : w.ownsRow B 5 1 ov out.length (out.map fun x : Nat => .int .u8 (x : Int))
  byt : ∀ i, i < d.length → nth d i < 256
  cp : d.length ≤ cap
  lc : cap ≤ 9223372036854775807
  lm : most ≤ 1000000
  lo : out.length ≤ most
  lp : p ≤ d.length

variable {B br bd off cap : Nat} {d : List Nat} {most : Nat} {w : World} {p : Nat} {ov : Value} {out : List Nat}

theorem Rd.c0 (h : Rd B br bd off cap d most w p ov out) : w.cell? ⟨br, 0, none⟩ = some (.slice (some ⟨bd, off, none⟩) d.length cap) := by rw [cell_blk h.blk]; rfl
theorem Rd.c1 (h : Rd B br bd off cap d most w p ov out) : w.cell? ⟨br, 1, none⟩ = some (.int .i64 p) := by rw [cell_blk h.blk]; rfl
theorem Rd.c2 (h : Rd B br bd off cap d most w p ov out) : w.cell? ⟨br, 2, none⟩ = some ov := by rw [cell_blk h.blk]; rfl
theorem Rd.c3 (h : Rd B br bd off cap d most w p ov out) : w.cell? ⟨br, 3, none⟩ = some (.int .i64 most) := by rw [cell_blk h.blk]; rfl
theorem Rd.fz (h : Rd B br bd off cap d most w p ov out) (i : Nat) : w.frozen? ⟨br, i, none⟩ = false := free_blk h.blk

theorem Rd.drewN (h : Rd B br bd off cap d most w p ov out) (n : Nat) : Rd B br bd off cap d most (w.drewN n) p ov out :=
  ⟨h.hB, h.hb, h.blk, h.dat, h.own, h.byt, h.cp, h.lc, h.lm, h.lo, h.lp⟩
theorem Rd.sz (h : Rd B br bd off cap d most w p ov out) : B < w.heap.size := by have := h.hb; have := lt_of_block h.blk; omega
theorem Rd.alloc (h : Rd B br bd off cap d most w p ov out) (o : Obj) : Rd B br bd off cap d most (w.alloc o) p ov out :=
  ⟨h.hB, h.hb, blk_alloc _ h.blk, fun i hi => by rw [World.cell?_alloc_lt _ _ _ (by have := h.sz; have := h.hB; show bd < _; omega)]; exact h.dat i hi, h.own.alloc _, h.byt, h.cp, h.lc, h.lm, h.lo, h.lp⟩
theorem Rd.set1 (h : Rd B br bd off cap d most w p ov out) (q : Nat) (hq : q ≤ d.length) : Rd B br bd off cap d most (w.setCell ⟨br, 1, none⟩ (.int .i64 q)) q ov out := by
  have hB := h.hB
  have hb := h.hb
  refine ⟨h.hB, h.hb, ?_, ?_, ?_, h.byt, h.cp, h.lc, h.lm, h.lo, hq⟩
  · rw [blk_setCell _ h.blk]; rfl
  · intro i hi; rw [cell_ne _ (by show br ≠ bd; omega)]; exact h.dat i hi
  · exact ownsRow_setCell_other h.own (own_ne h.own h.blk (by decide)) _

theorem take_ok (h : Rd B br bd off cap d most w p ov out) (n : Nat) (hn : 0 < n) (hp : p + n ≤ d.length) :
    Calls Tryd.prog 40 #[.pointer (some ⟨br, 0, none⟩), .int .i64 n] w fun e w' =>
      e = .returned (.slice (some ⟨bd, off + p, none⟩) n (cap - p)) ∧ Rd B br bd off cap d most w' (p + n) ov out ∧ Kept 5 B [br] w w' := by
  have c0 := h.c0
  have c1 := h.c1
  have f1 := h.fz 1
  have b1 := h.cp
  have b2 := h.lc
  have b3 := h.lp
  have b4 := h.hb
  have t1 : (n : Int) ≤ (d.length : Int) - (p : Int) := by omega
  go_enter Tryd.func40, Tryd.ntmps40
  go_wp2_with fail
  go_quiet ((go_at_call 39; exact Calls.quiet_of_same (must_yes _)))
  go_wp2_with fail
  go_quiet (fail)
  go_wp2
  go_ret
  refine ⟨?_, ?_, ?_⟩
  · show Ending.returned (.slice (some ⟨bd, off + p, none⟩) (p + n - p) (cap - p)) = _
    rw [Nat.add_sub_cancel_left]
  · exact (h.drewN _).set1 (p + n) hp
  · exact ((Kept.refl _ _ _ _).drewN _).setCell (by simp) _

theorem next_ok (h : Rd B br bd off cap d most w p ov out) (hp : p < d.length) :
    Calls Tryd.prog 52 #[.pointer (some ⟨br, 0, none⟩)] w fun e w' =>
      e = .returned (.int .u8 (nth d p : Nat)) ∧ Rd B br bd off cap d most w' (p + 1) ov out ∧ Kept 5 B [br] w w' := by
  go_enter Tryd.func52, Tryd.ntmps52
  go_wp2_with (go_at_call 40; refine (take_ok h 1 (by omega) (by omega)).mono ?_; rintro e w' ⟨rfl, hr, hb⟩; have hd := hr.dat p hp)
  go_ret
  exact ⟨rfl, hr, hb⟩


/-- Where a reader stands. -/
def posOf (br : Nat) (w : World) : Nat := (intOf ((w.cell? ⟨br, 1, none⟩).getD undef)).toNat
theorem Rd.posOf (h : Rd B br bd off cap d most w p ov out) : posOf br w = p := by unfold Go.Proofs.YtgkljcmjnphpeaaDoor.posOf; rw [h.c1]; simp [intOf]

theorem hide {q : Prop} (h : q) : Hid q := h

theorem Tryd.infoByte : (Tryd.prog.info? 5).map (fun i => (i.zero, i.size, i.bytes)) = some (some (.int .u8 0), 1, 1) := by kernel_rfl

theorem room_ok (h : Rd B br bd off cap d most w p ov out) (n : Nat) (ho : out.length + n ≤ most) :
    Calls Tryd.prog 74 #[.pointer (some ⟨br, 0, none⟩), .int .i64 n] w fun e w' => e = .returned (.tuple #[]) ∧ ∃ q, w' = w.drewN q := by
  have c2 := h.c2
  have c3 := h.c3
  have b1 := h.lm
  obtain ⟨ao, oc, hov⟩ := own_slice h.own
  rw [hov] at c2
  clear hov
  go_enter Tryd.func74, Tryd.ntmps74
  go_wp2_with fail
  go_quiet ((go_at_call 10; exact Calls.quiet_of_same (within_int_yes _ _ _ _ (by omega) (by omega))))
  go_wp2
  go_end0
  exact ⟨rfl, _, rfl⟩

theorem Rd.grown_blk (h : Rd B br bd off cap d most w p ov out) {w1 : World} (hg : w.grownBy w1 ov.ownBlock) :
    w1.heap[br]? = some (.cells #[.slice (some ⟨bd, off, none⟩) d.length cap, .int .i64 p, ov, .int .i64 most] 41 (0, 0)) := by
  rw [hg.block br (lt_of_block h.blk) (fun c => own_ne h.own h.blk (by decide) c.symm)]; exact h.blk

theorem Rd.put (h : Rd B br bd off cap d most w p ov out) {w1 : World} {v : Value} {xs : List Nat} (ho : out.length + xs.length ≤ most)
    (hown : w1.ownsRow B 5 1 v (out.length + xs.length) ((out.map fun x : Nat => .int .u8 (x : Int)) ++ (xs.map fun x : Nat => .int .u8 (x : Int)))) (hg : w.grownBy w1 ov.ownBlock) :
    Rd B br bd off cap d most (w1.setCell ⟨br, 2, none⟩ v) p v (out ++ xs) := by
  have hB := h.hB
  have hb := h.hb
  have hk := h.grown_blk hg
  refine ⟨h.hB, h.hb, ?_, ?_, ?_, h.byt, h.cp, h.lc, h.lm, by simpa using ho, h.lp⟩
  · rw [blk_setCell _ hk]; rfl
  · intro i hi
    rw [cell_ne _ (by show br ≠ bd; omega)]
    refine hg.cell (h.dat i hi) (fun c => ?_)
    have := (h.own.lt _ c.symm).1
    simp at this; omega
  · rw [List.length_append, List.map_append]
    exact ownsRow_setCell_other hown (own_ne hown hk (by decide)) _

set_option maxHeartbeats 400000 in
theorem put_ok (h : Rd B br bd off cap d most w p ov out) (xs : List Nat) (a : Addr) (c : Nat) (ho : out.length + xs.length ≤ most) (hs : B ≤ w.heap.size)
    (hc : ∀ i, i < xs.length → w.cell? (a.add i) = some (.int .u8 (nth xs i : Nat))) :
    Calls Tryd.prog 50 #[.pointer (some ⟨br, 0, none⟩), .slice (some a) xs.length c] w fun e w' =>
      e = .returned (.tuple #[]) ∧ ∃ ov', Rd B br bd off cap d most w' p ov' (out ++ xs) ∧ Kept 5 B [br] w w' := by
  obtain ⟨i0, hi, hz0, hz1, hz2⟩ := info_parts Tryd.infoByte
  have c2 := h.c2
  have b1 := h.lm
  go_enter Tryd.func50, Tryd.ntmps50
  go_wp2_with (first | (go_at_call 74; refine (room_ok h _ ho).mono ?_; rintro e w' ⟨rfl, q, rfl⟩) | (at_builtin; refine wpList_append_own _ rfl (.tmp 12) (.tmp 13) 22 rfl B 5 i0 (.int .u8 0) 1 1 Tryd.underlying22 hi hz0 hz1 hz2 rfl (by decide) ov out.length _ rfl h.own a xs.length c (xs.map fun x : Nat => .int .u8 (x : Int)) rfl (by simp) ?hnews ?hone ?h63 ?hby hs ?_))
  case hnews =>
    intro j u hu
    have hj : j < xs.length := by have := (List.getElem?_eq_some_iff.1 hu).1; simpa using this
    have e : u = .int .u8 (nth xs j : Nat) := by simp [hj] at hu; simp [nth, hj, hu]
    rw [e]; exact hc j hj
  case hone => intro u hu; simp at hu; obtain ⟨x, _, rfl⟩ := hu; rfl
  case h63 => unfold maxLen; omega
  case hby => omega
  intro v' w1 hown hg0 _
  have hg : w.grownBy w1 ov.ownBlock := ⟨hg0.os, hg0.tape, hg0.output, hg0.size, hg0.block⟩
  clear hg0
  have hk := h.grown_blk hg
  have k2 : w1.cell? ⟨br, 2, none⟩ = some ov := by rw [cell_blk hk]; rfl
  have f2 : w1.frozen? ⟨br, 2, none⟩ = false := free_blk hk
  obtain ⟨ao, oc, rfl⟩ := own_slice hown
  have R := h.put ho hown hg
  have KK := ((Kept.refl 5 B [br] w).grown hg (own_row h.own)).setCell (p := ⟨br, 2, none⟩) (by simp) (.slice ao (out.length + xs.length) oc)
  clear hown hg hk
  go_wp2
  go_end0
  exact ⟨rfl, _, R, KK⟩

theorem put1_ok (h : Rd B br bd off cap d most w p ov out) (x : Nat) (v : Int) (hv : v = x) (ho : out.length + 1 ≤ most) :
    Calls Tryd.prog 50 #[.pointer (some ⟨br, 0, none⟩), .slice (some ⟨w.heap.size, 0, none⟩) 1 1] (w.alloc (.cells #[.int .u8 v] 5)) fun e w' =>
      e = .returned (.tuple #[]) ∧ ∃ ov', Rd B br bd off cap d most w' p ov' (out ++ [x]) ∧ Kept 5 B [br] w w' := by
  subst hv
  have hs := h.sz
  refine (put_ok (h.alloc _) [x] ⟨w.heap.size, 0, none⟩ 1 ho (by simp; omega) ?_).mono ?_
  · intro i hi
    obtain rfl : i = 0 := by simpa using hi
    show (w.alloc _).cell? ⟨w.heap.size, 0 + 0, none⟩ = _
    rw [World.cell?_alloc_new]; rfl
  · rintro e w' ⟨rfl, ov', r, k⟩
    exact ⟨rfl, ov', r, ((Kept.refl _ _ _ _).alloc _).trans k⟩

end Go.Proofs.YtgkljcmjnphpeaaDoor
