/- A reader of bits in memory: bit, bits, align. -/
import Derived.Test.YtgkljcmjnphpeaaDoorRd
import Derived.Test.YtgkljcmjnphpeaaDoorPuBlocks
import Derived.Test.YtgkljcmjnphpeaaDoorB64
set_option linter.unusedVariables false
set_option linter.unusedSimpArgs false
namespace Go.Proofs.YtgkljcmjnphpeaaDoor
open Go.RowKit

/-- An inflater in memory: its block bf, its reader; the bits that are left of the byte that was begun. -/
structure Bi (B br bf bd off cap : Nat) (d : List Nat) (most : Nat) (fixed : List Value) (w : World) (p held left window : Nat) (ov : Value) (out : List Nat) : Prop where
  rd : Rd B br bd off cap d most w p ov out
  hbf : B ≤ bf
  blk : w.heap[bf]? = some (.cells (Value.pointer (some ⟨br, 0, none⟩) :: .int .u8 held :: .int .i64 left :: .int .i64 window :: fixed).toArray 57 (0, 0))
  hh : held < 256
  hl : left ≤ 8

variable {B br bf bd off cap : Nat} {d : List Nat} {most : Nat} {fixed : List Value} {w : World} {p held left window : Nat} {ov : Value} {out : List Nat}

/-- The bits that are still to be read. -/
def bitsLeft (d : List Nat) (p held left : Nat) : List Bool := Fo.numBits left held ++ Fo.bitsOf (d.drop p)

theorem Bi.c0 (h : Bi B br bf bd off cap d most fixed w p held left window ov out) : w.cell? ⟨bf, 0, none⟩ = some (.pointer (some ⟨br, 0, none⟩)) := by rw [cell_blk h.blk]; simp
theorem Bi.c1 (h : Bi B br bf bd off cap d most fixed w p held left window ov out) : w.cell? ⟨bf, 1, none⟩ = some (.int .u8 held) := by rw [cell_blk h.blk]; simp
theorem Bi.c2 (h : Bi B br bf bd off cap d most fixed w p held left window ov out) : w.cell? ⟨bf, 2, none⟩ = some (.int .i64 left) := by rw [cell_blk h.blk]; simp
theorem Bi.c3 (h : Bi B br bf bd off cap d most fixed w p held left window ov out) : w.cell? ⟨bf, 3, none⟩ = some (.int .i64 window) := by rw [cell_blk h.blk]; simp
theorem Bi.fz (h : Bi B br bf bd off cap d most fixed w p held left window ov out) (i : Nat) : w.frozen? ⟨bf, i, none⟩ = false := free_blk h.blk
theorem Bi.ne (h : Bi B br bf bd off cap d most fixed w p held left window ov out) : bf ≠ br := by
  intro e; have h1 := h.blk; rw [e, h.rd.blk] at h1; simp at h1
theorem Bi.drewN (h : Bi B br bf bd off cap d most fixed w p held left window ov out) (n : Nat) : Bi B br bf bd off cap d most fixed (w.drewN n) p held left window ov out := ⟨h.rd.drewN n, h.hbf, h.blk, h.hh, h.hl⟩
theorem Rd.setOther {w : World} {p : Nat} {ov : Value} {out : List Nat} (h : Rd B br bd off cap d most w p ov out) {a : Addr} (v : Value) (h1 : B ≤ a.block) (h2 : a.block ≠ br) (h3 : ov.ownBlock ≠ some a.block) : Rd B br bd off cap d most (w.setCell a v) p ov out := by
  have hB := h.hB
  refine ⟨h.hB, h.hb, ?_, ?_, ?_, h.byt, h.cp, h.lc, h.lm, h.lo, h.lp⟩
  · rw [Below.heap_setCell _ _ _ _ (fun e => h2 e.symm)]; exact h.blk
  · intro i hi; rw [cell_ne _ (by show a.block ≠ bd; omega)]; exact h.dat i hi
  · exact ownsRow_setCell_other h.own h3 _
theorem Bi.own_ne (h : Bi B br bf bd off cap d most fixed w p held left window ov out) : ov.ownBlock ≠ some bf := Go.own_ne h.rd.own h.blk (by decide)
theorem Bi.set1 (h : Bi B br bf bd off cap d most fixed w p held left window ov out) (x : Nat) (hx : x < 256) : Bi B br bf bd off cap d most fixed (w.setCell ⟨bf, 1, none⟩ (.int .u8 x)) p x left window ov out := by
  refine ⟨h.rd.setOther _ h.hbf h.ne h.own_ne, h.hbf, ?_, hx, h.hl⟩
  rw [blk_setCell _ h.blk]; simp
theorem Bi.set2 (h : Bi B br bf bd off cap d most fixed w p held left window ov out) (x : Nat) (hx : x ≤ 8) : Bi B br bf bd off cap d most fixed (w.setCell ⟨bf, 2, none⟩ (.int .i64 x)) p held x window ov out := by
  refine ⟨h.rd.setOther _ h.hbf h.ne h.own_ne, h.hbf, ?_, h.hh, hx⟩
  rw [blk_setCell _ h.blk]; simp
theorem Bi.rdKept (h : Bi B br bf bd off cap d most fixed w p held left window ov out) {w' : World} {p' : Nat} {ov' : Value} {out' : List Nat} (r : Rd B br bd off cap d most w' p' ov' out') (k : Kept 5 B [br] w w') : Bi B br bf bd off cap d most fixed w' p' held left window ov' out' :=
  ⟨r, h.hbf, k.block bf _ (by simp [h.ne]) h.blk (Or.inr (by intro c fz e; simp at e)), h.hh, h.hl⟩

theorem and1 (x : Nat) (h : x < 256) : bits .and .u8 (x : Int) 1 = ((x % 2 : Nat) : Int) := by
  have := u8_and_nat x 1 h (by omega)
  rw [nat_mask1] at this; exact this

theorem bit_held (h : Bi B br bf bd off cap d most fixed w p held left window ov out) (hl : 0 < left) :
    Calls Tryd.prog 58 #[.pointer (some ⟨bf, 0, none⟩)] w fun e w' => e = .returned (.int .i64 (held % 2 : Nat)) ∧ Bi B br bf bd off cap d most fixed w' p (held / 2) (left - 1) window ov out ∧ Kept 5 B [br, bf] w w' := by
  have c1 := h.c1
  have c2 := h.c2
  have f1 := h.fz 1
  have f2 := h.fz 2
  have b1 := h.hh
  have b2 := h.hl
  have e1 : ((left : Int) == 0) = false := by simp; omega
  have g := and1 held b1
  go_enter Tryd.func58, Tryd.ntmps58
  go_wp2
  go_ret
  have i1 : ((held : Int) / 2) = ((held / 2 : Nat) : Int) := by omega
  have i2 : ((left : Int) - 1) = ((left - 1 : Nat) : Int) := by omega
  rw [i1, i2]
  exact ⟨rfl, (h.set1 (held / 2) (by omega)).set2 (left - 1) (by omega), ((Kept.refl _ _ _ _).setCell (by simp) _).setCell (by simp) _⟩

theorem bit_next (h : Bi B br bf bd off cap d most fixed w p held 0 window ov out) (hp : p < d.length) :
    Calls Tryd.prog 58 #[.pointer (some ⟨bf, 0, none⟩)] w fun e w' => e = .returned (.int .i64 (nth d p % 2 : Nat)) ∧ Bi B br bf bd off cap d most fixed w' (p + 1) (nth d p / 2) 7 window ov out ∧ Kept 5 B [br, bf] w w' := by
  have c0 := h.c0
  have c2 := h.c2
  have b1 := h.rd.byt p hp
  have g := and1 (nth d p) b1
  go_enter Tryd.func58, Tryd.ntmps58
  go_wp2_with (go_at_call 52; refine (next_ok h.rd hp).mono ?_; rintro e w1 ⟨rfl, r1, k1⟩; have h1 := h.rdKept r1 k1; have d1 := h1.c1; have d2 := h1.c2; have f1 := h1.fz 1; have f2 := h1.fz 2)
  go_ret
  have i1 : ((nth d p : Int) / 2) = ((nth d p / 2 : Nat) : Int) := by omega
  rw [i1]
  exact ⟨rfl, (((h1.set1 _ b1).set2 8 (by omega)).set1 (nth d p / 2) (by omega)).set2 7 (by omega), (((((k1.mono (by simp)).setCell (by simp) _).setCell (by simp) _).setCell (by simp) _).setCell (by simp) _)⟩

/-- An inflater in memory with these bits still to be read. -/
def Fl (B br bf bd off cap : Nat) (d : List Nat) (most : Nat) (fixed : List Value) (w : World) (rest : List Bool) (window : Nat) (ov : Value) (out : List Nat) : Prop :=
  ∃ p held left, Bi B br bf bd off cap d most fixed w p held left window ov out ∧ left < 8 ∧ bitsLeft d p held left = rest

theorem bitsOf_nth (d : List Nat) (p : Nat) (hp : p < d.length) : Fo.bitsOf (d.drop p) = Fo.numBits 8 (nth d p) ++ Fo.bitsOf (d.drop (p + 1)) := by
  have : nth d p = d[p] := by simp [nth, hp]
  rw [List.drop_eq_getElem_cons hp, Fo.bitsOf_cons, this, Fo.bits8_num]

theorem bit_ok {b : Bool} {rest : List Bool} (h : Fl B br bf bd off cap d most fixed w (b :: rest) window ov out) :
    Calls Tryd.prog 58 #[.pointer (some ⟨bf, 0, none⟩)] w fun e w' => e = .returned (.int .i64 (b.toNat : Nat)) ∧ Fl B br bf bd off cap d most fixed w' rest window ov out ∧ Kept 5 B [br, bf] w w' := by
  obtain ⟨p, held, left, hb, hl, hr⟩ := h
  have tb : ∀ x : Nat, (x % 2 == 1) = b → x % 2 = b.toNat := by
    intro x hx
    rcases Nat.mod_two_eq_zero_or_one x with h | h <;> rw [h] at hx <;> rw [h] <;> subst hx <;> rfl
  by_cases h0 : 0 < left
  · obtain ⟨n, rfl⟩ : ∃ n, left = n + 1 := ⟨left - 1, by omega⟩
    simp only [bitsLeft, Fo.numBits, List.cons_append, List.cons.injEq] at hr
    refine (bit_held hb h0).mono ?_
    rintro e w' ⟨rfl, r, k⟩
    exact ⟨by rw [tb held hr.1], ⟨p, held / 2, n, r, by omega, hr.2⟩, k⟩
  · obtain rfl : left = 0 := by omega
    have hp : p < d.length := by
      rcases Nat.lt_or_ge p d.length with h | h
      · exact h
      · rw [bitsLeft, List.drop_eq_nil_of_le h] at hr; simp [Fo.numBits, Fo.bitsOf] at hr
    rw [bitsLeft, bitsOf_nth d p hp] at hr
    simp only [Fo.numBits, List.nil_append, List.cons_append, List.cons.injEq] at hr
    refine (bit_next hb hp).mono ?_
    rintro e w' ⟨rfl, r, k⟩
    exact ⟨by rw [tb _ hr.1], ⟨p + 1, nth d p / 2, 7, r, by omega, hr.2⟩, k⟩

theorem Fl.drewN {rest : List Bool} (h : Fl B br bf bd off cap d most fixed w rest window ov out) (n : Nat) : Fl B br bf bd off cap d most fixed (w.drewN n) rest window ov out := by
  obtain ⟨p, held, left, hb, hl, hr⟩ := h
  exact ⟨p, held, left, hb.drewN n, hl, hr⟩

theorem Fl.alloc {rest : List Bool} (h : Fl B br bf bd off cap d most fixed w rest window ov out) (o : Obj) : Fl B br bf bd off cap d most fixed (w.alloc o) rest window ov out := by
  obtain ⟨p, held, left, hb, hl, hr⟩ := h
  exact ⟨p, held, left, ⟨hb.rd.alloc o, hb.hbf, blk_alloc _ hb.blk, hb.hh, hb.hl⟩, hl, hr⟩
theorem Fl.lt {rest : List Bool} (h : Fl B br bf bd off cap d most fixed w rest window ov out) : B ≤ br ∧ B ≤ bf ∧ br < w.heap.size ∧ bf < w.heap.size := by
  obtain ⟨p, held, left, hb, hl, hr⟩ := h
  exact ⟨hb.rd.hb, hb.hbf, lt_of_block hb.rd.blk, lt_of_block hb.blk⟩
theorem Fl.drew {rest : List Bool} (h : Fl B br bf bd off cap d most fixed w rest window ov out) : Fl B br bf bd off cap d most fixed w.drew rest window ov out := h.drewN 1

theorem or_bit (x i : Nat) (b : Bool) (hx : x < 2 ^ i) (hi : i < 62) : bits .or .i64 (x : Int) (wrap64 ((b.toNat : Int) * 2 ^ i)) = ((x + b.toNat * 2 ^ i : Nat) : Int) := by
  have h1 : 2 ^ i ≤ 2 ^ 61 := Nat.pow_le_pow_right (by omega) (by omega)
  have h2 : b.toNat * 2 ^ i ≤ 1 * 2 ^ i := Nat.mul_le_mul_right _ (by cases b <;> decide)
  have e : ((b.toNat : Int) * 2 ^ i) = ((b.toNat * 2 ^ i : Nat) : Int) := by rw [Int.natCast_mul, Int.natCast_pow]; rfl
  rw [e, wrap64_nat _ (by omega), i64_or_nat _ _ (by omega) (by omega), or_low _ _ _ hx]

theorem val_snoc (l : List Bool) (b : Bool) : Fo.val (l ++ [b]) = Fo.val l + b.toNat * 2 ^ l.length := by
  induction l with
  | nil => simp [Fo.val]
  | cons c l ih => simp only [List.cons_append, Fo.val, ih, List.length_cons, Nat.pow_succ]; rw [Nat.mul_add, Nat.add_assoc]; congr 2; rw [Nat.mul_comm 2, Nat.mul_assoc]

set_option maxHeartbeats 400000 in
theorem bits_ok (n : Nat) (hn : n ≤ 16) {rest : List Bool} (hr : n ≤ rest.length) (h : Fl B br bf bd off cap d most fixed w rest window ov out) :
    Calls Tryd.prog 59 #[.pointer (some ⟨bf, 0, none⟩), .int .i64 n] w fun e w' => e = .returned (.int .i64 (Fo.val (rest.take n))) ∧ Fl B br bf bd off cap d most fixed w' (rest.drop n) window ov out ∧ Kept 5 B [br, bf] w w' := by
  go_enter Tryd.func59, Tryd.ntmps59
  go_wp2
  go_loopw [5, 8] (fun v i wr => ∃ k : Nat, k ≤ n ∧ i = .int .i64 k ∧ v = .int .i64 (Fo.val (rest.take k)) ∧ Fl B br bf bd off cap d most fixed wr (rest.drop k) window ov out ∧ Kept 5 B [br, bf] w wr) (fun _ i _ => n - (intOf i).toNat)
  case atStart => exact ⟨0, Nat.zero_le _, rfl, rfl, h, Kept.refl _ _ _ _⟩
  case round =>
    obtain ⟨k, hk, rfl, rfl, hf, kk⟩ := hrel
    have hv := Fo.val_lt (rest.take k)
    rw [List.length_take, Nat.min_eq_left (by omega)] at hv
    by_cases hlt : k < n
    · have hs := val_snoc (rest.take k) rest[k]
      rw [List.length_take, Nat.min_eq_left (by omega), ← List.take_succ_eq_append_getElem (by omega)] at hs
      have HS := hide hs
      clear hs
      rw [List.drop_eq_getElem_cons (by omega)] at hf
      have ho := hide (or_bit (Fo.val (rest.take k)) k rest[k] hv (by omega))
      generalize hX : Fo.val (rest.take k) = X at *
      generalize hY : rest[k] = Y at *
      clear hX hY
      go_wp2_with fail
      refine (bit_ok hf).mono ?_
      rintro e w1 ⟨rfl, hf1, k1⟩
      go_wp2
      go_roundw
      case rel => exact ⟨k + 1, by omega, by go_num, by rw [ho.out, HS.out], hf1, kk.trans k1⟩
      case measure => simp [intOf]; omega
    · obtain rfl : k = n := by omega
      go_wp2
      go_ret
      exact ⟨rfl, hf, kk⟩

theorem align_ok {rest : List Bool} (h : Fl B br bf bd off cap d most fixed w rest window ov out) :
    Calls Tryd.prog 38 #[.pointer (some ⟨bf, 0, none⟩)] w fun e w' => e = .returned (.tuple #[]) ∧ (∃ p held, Bi B br bf bd off cap d most fixed w' p held 0 window ov out ∧ Fo.bitsOf (d.drop p) = rest.drop (rest.length % 8)) ∧ Kept 5 B [br, bf] w w' := by
  obtain ⟨p, held, left, hb, hl, hr⟩ := h
  have c2 := hb.c2
  have f2 := hb.fz 2
  have hlen : rest.length % 8 = left := by rw [← hr, bitsLeft, List.length_append, Fo.numBits_length, Fo.bitsOf_length]; omega
  go_enter Tryd.func38, Tryd.ntmps38
  go_wp2
  go_end0
  refine ⟨rfl, ⟨p, held, hb.set2 0 (by omega), ?_⟩, (Kept.refl _ _ _ _).setCell (by simp) _⟩
  rw [hlen, ← hr, bitsLeft, List.drop_left' (Fo.numBits_length _ _)]
end Go.Proofs.YtgkljcmjnphpeaaDoor
