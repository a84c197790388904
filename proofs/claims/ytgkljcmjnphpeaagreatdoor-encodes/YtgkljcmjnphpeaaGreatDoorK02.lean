/- append onto a row of the call's own, as one step of a region that draws its order. -/
import Derived.Test.YtgkljcmjnphpeaaGreatDoorK00
import Derived.Test.YtgkljcmjnphpeaaGreatDoorK01
import Derived.Deep.RegionLaw
set_option linter.unusedVariables false
set_option linter.unusedSimpArgs false
namespace Go.Proofs.YtgkljcmjnphpeaaGreatDoor
open Go.RowKit
/-- An inflater in memory: its block bf, its reader; the bits that are left of the byte that was begun. -/
structure Bi (B br bf bd off cap : Nat) (d : List Nat) (most : Nat) (fixed : List Value) (w : World) (p held left window : Nat) (ov : Value) (out : List Nat) : Prop where
  rd : Rd B br bd off cap d most w p ov out
  hbf : B ≤ bf
  blk : w.heap[bf]? = some (.cells (Value.pointer (some ⟨br, 0, none⟩) :: .int .u8 held :: .int .i64 left :: .int .i64 window :: fixed).toArray 167 (0, 0))
  hh : held < 256
  hl : left ≤ 8
variable {B br bf bd off cap : Nat} {d : List Nat} {most : Nat} {fixed : List Value} {w : World} {p held left window : Nat} {ov : Value} {out : List Nat}
/-- The bits that are still to be read. -/
def bitsLeft (d : List Nat) (p held left : Nat) : List Bool := Fo.numBits left held ++ Fo.bitsOf (d.drop p)
theorem Bi.c0 (h : Bi B br bf bd off cap d most fixed w p held left window ov out) : w.cell? ⟨bf, 0, none⟩ = some (.pointer (some ⟨br, 0, none⟩)) := by rw [cell_blk h.blk]; simp
theorem Bi.c1 (h : Bi B br bf bd off cap d most fixed w p held left window ov out) : w.cell? ⟨bf, 1, none⟩ = some (.int .u8 held) := by rw [cell_blk h.blk]; simp
theorem Bi.c2 (h : Bi B br bf bd off cap d most fixed w p held left window ov out) : w.cell? ⟨bf, 2, none⟩ = some (.int .i64 left) := by rw [cell_blk h.blk]; simp
theorem Bi.c3 (h : Bi B br bf bd off cap d most fixed w p held left window ov out) : w.cell? ⟨bf, 3, none⟩ = some (.int .i64 window) := by rw [cell_blk h.blk]; simp
theorem Bi.fz (h : Bi B br bf bd off cap d most fixed w p held left window ov out) (i : Nat) : w.frozen? ⟨bf, i, none⟩ = false := free_blk h.blk
theorem Bi.ne (h : Bi B br bf bd off cap d most fixed w p held left window ov out) : bf ≠ br := by
  intro e; have h1 := h.blk; rw [e, h.rd.blk] at h1; simp at h1
theorem Bi.drewN (h : Bi B br bf bd off cap d most fixed w p held left window ov out) (n : Nat) : Bi B br bf bd off cap d most fixed (w.drewN n) p held left window ov out := ⟨h.rd.drewN n, h.hbf, h.blk, h.hh, h.hl⟩
theorem Rd.setOther {w : World} {p : Nat} {ov : Value} {out : List Nat} (h : Rd B br bd off cap d most w p ov out) {a : Addr} (v : Value) (h1 : B ≤ a.block) (h2 : a.block ≠ br) (h3 : ov.ownBlock ≠ some a.block) : Rd B br bd off cap d most (w.setCell a v) p ov out := by
  have hB := h.hB
  refine ⟨h.hB, h.hb, ?_, ?_, ?_, h.byt, h.cp, h.lc, h.lm, h.lo, h.lp⟩
  · rw [Below.heap_setCell _ _ _ _ (fun e => h2 e.symm)]; exact h.blk
  · intro i hi; rw [cell_ne _ (by show a.block ≠ bd; omega)]; exact h.dat i hi
  · exact ownsRow_setCell_other h.own h3 _
theorem Bi.own_ne (h : Bi B br bf bd off cap d most fixed w p held left window ov out) : ov.ownBlock ≠ some bf := Go.own_ne h.rd.own h.blk (by decide)
theorem Bi.set1 (h : Bi B br bf bd off cap d most fixed w p held left window ov out) (x : Nat) (hx : x < 256) : Bi B br bf bd off cap d most fixed (w.setCell ⟨bf, 1, none⟩ (.int .u8 x)) p x left window ov out := by
  refine ⟨h.rd.setOther _ h.hbf h.ne h.own_ne, h.hbf, ?_, hx, h.hl⟩
  rw [blk_setCell _ h.blk]; simp
theorem Bi.set2 (h : Bi B br bf bd off cap d most fixed w p held left window ov out) (x : Nat) (hx : x ≤ 8) : Bi B br bf bd off cap d most fixed (w.setCell ⟨bf, 2, none⟩ (.int .i64 x)) p held x window ov out := by
  refine ⟨h.rd.setOther _ h.hbf h.ne h.own_ne, h.hbf, ?_, h.hh, hx⟩
  rw [blk_setCell _ h.blk]; simp
theorem Bi.rdKept (h : Bi B br bf bd off cap d most fixed w p held left window ov out) {w' : World} {p' : Nat} {ov' : Value} {out' : List Nat} (r : Rd B br bd off cap d most w' p' ov' out') (k : Kept 5 B [br] w w') : Bi B br bf bd off cap d most fixed w' p' held left window ov' out' :=
  ⟨r, h.hbf, k.block bf _ (by simp [h.ne]) h.blk (Or.inr (by intro c fz e; simp at e)), h.hh, h.hl⟩
theorem and1 (x : Nat) (h : x < 256) : bits .and .u8 (x : Int) 1 = ((x % 2 : Nat) : Int) := by
  have := u8_and_nat x 1 h (by omega)
  rw [nat_mask1] at this; exact this
theorem bit_held (h : Bi B br bf bd off cap d most fixed w p held left window ov out) (hl : 0 < left) :
    Calls Tryz.prog 220 #[.pointer (some ⟨bf, 0, none⟩)] w fun e w' => e = .returned (.int .i64 (held % 2 : Nat)) ∧ Bi B br bf bd off cap d most fixed w' p (held / 2) (left - 1) window ov out ∧ Kept 5 B [br, bf] w w' := by
  have c1 := h.c1
  have c2 := h.c2
  have f1 := h.fz 1
  have f2 := h.fz 2
  have b1 := h.hh
  have b2 := h.hl
  have e1 : ((left : Int) == 0) = false := by simp; omega
  have g := and1 held b1
  go_enter Tryz.func220, Tryz.ntmps220
  go_wp2
  go_ret
  have i1 : ((held : Int) / 2) = ((held / 2 : Nat) : Int) := by omega
  have i2 : ((left : Int) - 1) = ((left - 1 : Nat) : Int) := by omega
  rw [i1, i2]
  exact ⟨rfl, (h.set1 (held / 2) (by omega)).set2 (left - 1) (by omega), ((Kept.refl _ _ _ _).setCell (by simp) _).setCell (by simp) _⟩
theorem bit_next (h : Bi B br bf bd off cap d most fixed w p held 0 window ov out) (hp : p < d.length) :
    Calls Tryz.prog 220 #[.pointer (some ⟨bf, 0, none⟩)] w fun e w' => e = .returned (.int .i64 (nth d p % 2 : Nat)) ∧ Bi B br bf bd off cap d most fixed w' (p + 1) (nth d p / 2) 7 window ov out ∧ Kept 5 B [br, bf] w w' := by
  have c0 := h.c0
  have c2 := h.c2
  have b1 := h.rd.byt p hp
  have g := and1 (nth d p) b1
  go_enter Tryz.func220, Tryz.ntmps220
  go_wp2_with (go_at_call 214; refine (next_ok h.rd hp).mono ?_; rintro e w1 ⟨rfl, r1, k1⟩; have h1 := h.rdKept r1 k1; have d1 := h1.c1; have d2 := h1.c2; have f1 := h1.fz 1; have f2 := h1.fz 2)
  go_ret
  have i1 : ((nth d p : Int) / 2) = ((nth d p / 2 : Nat) : Int) := by omega
  rw [i1]
  exact ⟨rfl, (((h1.set1 _ b1).set2 8 (by omega)).set1 (nth d p / 2) (by omega)).set2 7 (by omega), (((((k1.mono (by simp)).setCell (by simp) _).setCell (by simp) _).setCell (by simp) _).setCell (by simp) _)⟩
/-- An inflater in memory with these bits still to be read. -/
def Fl (B br bf bd off cap : Nat) (d : List Nat) (most : Nat) (fixed : List Value) (w : World) (rest : List Bool) (window : Nat) (ov : Value) (out : List Nat) : Prop :=
  ∃ p held left, Bi B br bf bd off cap d most fixed w p held left window ov out ∧ left < 8 ∧ bitsLeft d p held left = rest
theorem bitsOf_nth (d : List Nat) (p : Nat) (hp : p < d.length) : Fo.bitsOf (d.drop p) = Fo.numBits 8 (nth d p) ++ Fo.bitsOf (d.drop (p + 1)) := by
  have : nth d p = d[p] := by simp [nth, hp]
  rw [List.drop_eq_getElem_cons hp, Fo.bitsOf_cons, this, Fo.bits8_num]
theorem bit_ok {b : Bool} {rest : List Bool} (h : Fl B br bf bd off cap d most fixed w (b :: rest) window ov out) :
    Calls Tryz.prog 220 #[.pointer (some ⟨bf, 0, none⟩)] w fun e w' => e = .returned (.int .i64 (b.toNat : Nat)) ∧ Fl B br bf bd off cap d most fixed w' rest window ov out ∧ Kept 5 B [br, bf] w w' := by
  obtain ⟨p, held, left, hb, hl, hr⟩ := h
  have tb : ∀ x : Nat, (x % 2 == 1) = b → x % 2 = b.toNat := by
    intro x hx
    rcases Nat.mod_two_eq_zero_or_one x with h | h <;> rw [h] at hx <;> rw [h] <;> subst hx <;> rfl
  by_cases h0 : 0 < left
  · obtain ⟨n, rfl⟩ : ∃ n, left = n + 1 := ⟨left - 1, by omega⟩
    simp only [bitsLeft, Fo.numBits, List.cons_append, List.cons.injEq] at hr
    refine (bit_held hb h0).mono ?_
    rintro e w' ⟨rfl, r, k⟩
    exact ⟨by rw [tb held hr.1], ⟨p, held / 2, n, r, by omega, hr.2⟩, k⟩
  · obtain rfl : left = 0 := by omega
    have hp : p < d.length := by
      rcases Nat.lt_or_ge p d.length with h | h
      · exact h
      · rw [bitsLeft, List.drop_eq_nil_of_le h] at hr; simp [Fo.numBits, Fo.bitsOf] at hr
    rw [bitsLeft, bitsOf_nth d p hp] at hr
    simp only [Fo.numBits, List.nil_append, List.cons_append, List.cons.injEq] at hr
    refine (bit_next hb hp).mono ?_
    rintro e w' ⟨rfl, r, k⟩
    exact ⟨by rw [tb _ hr.1], ⟨p + 1, nth d p / 2, 7, r, by omega, hr.2⟩, k⟩
theorem Fl.drewN {rest : List Bool} (h : Fl B br bf bd off cap d most fixed w rest window ov out) (n : Nat) : Fl B br bf bd off cap d most fixed (w.drewN n) rest window ov out := by
  obtain ⟨p, held, left, hb, hl, hr⟩ := h
  exact ⟨p, held, left, hb.drewN n, hl, hr⟩
theorem Fl.alloc {rest : List Bool} (h : Fl B br bf bd off cap d most fixed w rest window ov out) (o : Obj) : Fl B br bf bd off cap d most fixed (w.alloc o) rest window ov out := by
  obtain ⟨p, held, left, hb, hl, hr⟩ := h
  exact ⟨p, held, left, ⟨hb.rd.alloc o, hb.hbf, blk_alloc _ hb.blk, hb.hh, hb.hl⟩, hl, hr⟩
theorem Fl.lt {rest : List Bool} (h : Fl B br bf bd off cap d most fixed w rest window ov out) : B ≤ br ∧ B ≤ bf ∧ br < w.heap.size ∧ bf < w.heap.size := by
  obtain ⟨p, held, left, hb, hl, hr⟩ := h
  exact ⟨hb.rd.hb, hb.hbf, lt_of_block hb.rd.blk, lt_of_block hb.blk⟩
theorem Fl.drew {rest : List Bool} (h : Fl B br bf bd off cap d most fixed w rest window ov out) : Fl B br bf bd off cap d most fixed w.drew rest window ov out := h.drewN 1
theorem or_bit (x i : Nat) (b : Bool) (hx : x < 2 ^ i) (hi : i < 62) : bits .or .i64 (x : Int) (wrap64 ((b.toNat : Int) * 2 ^ i)) = ((x + b.toNat * 2 ^ i : Nat) : Int) := by
  have h1 : 2 ^ i ≤ 2 ^ 61 := Nat.pow_le_pow_right (by omega) (by omega)
  have h2 : b.toNat * 2 ^ i ≤ 1 * 2 ^ i := Nat.mul_le_mul_right _ (by cases b <;> decide)
  have e : ((b.toNat : Int) * 2 ^ i) = ((b.toNat * 2 ^ i : Nat) : Int) := by rw [Int.natCast_mul, Int.natCast_pow]; rfl
  rw [e, wrap64_nat _ (by omega), i64_or_nat _ _ (by omega) (by omega), or_low _ _ _ hx]
theorem val_snoc (l : List Bool) (b : Bool) : Fo.val (l ++ [b]) = Fo.val l + b.toNat * 2 ^ l.length := by
  induction l with
  | nil => simp [Fo.val]
  | cons c l ih => simp only [List.cons_append, Fo.val, ih, List.length_cons, Nat.pow_succ]; rw [Nat.mul_add, Nat.add_assoc]; congr 2; rw [Nat.mul_comm 2, Nat.mul_assoc]
set_option maxHeartbeats 400000 in
theorem bits_ok (n : Nat) (hn : n ≤ 16) {rest : List Bool} (hr : n ≤ rest.length) (h : Fl B br bf bd off cap d most fixed w rest window ov out) :
    Calls Tryz.prog 221 #[.pointer (some ⟨bf, 0, none⟩), .int .i64 n] w fun e w' => e = .returned (.int .i64 (Fo.val (rest.take n))) ∧ Fl B br bf bd off cap d most fixed w' (rest.drop n) window ov out ∧ Kept 5 B [br, bf] w w' := by
  go_enter Tryz.func221, Tryz.ntmps221
  go_wp2
  go_loopw [5, 8] (fun v i wr => ∃ k : Nat, k ≤ n ∧ i = .int .i64 k ∧ v = .int .i64 (Fo.val (rest.take k)) ∧ Fl B br bf bd off cap d most fixed wr (rest.drop k) window ov out ∧ Kept 5 B [br, bf] w wr) (fun _ i _ => n - (intOf i).toNat)
  case atStart => exact ⟨0, Nat.zero_le _, rfl, rfl, h, Kept.refl _ _ _ _⟩
  case round =>
    obtain ⟨k, hk, rfl, rfl, hf, kk⟩ := hrel
    have hv := Fo.val_lt (rest.take k)
    rw [List.length_take, Nat.min_eq_left (by omega)] at hv
    by_cases hlt : k < n
    · have hs := val_snoc (rest.take k) rest[k]
      rw [List.length_take, Nat.min_eq_left (by omega), ← List.take_succ_eq_append_getElem (by omega)] at hs
      have HS := hide hs
      clear hs
      rw [List.drop_eq_getElem_cons (by omega)] at hf
      have ho := hide (or_bit (Fo.val (rest.take k)) k rest[k] hv (by omega))
      generalize hX : Fo.val (rest.take k) = X at *
      generalize hY : rest[k] = Y at *
      clear hX hY
      go_wp2_with fail
      refine (bit_ok hf).mono ?_
      rintro e w1 ⟨rfl, hf1, k1⟩
      go_wp2
      go_roundw
      case rel => exact ⟨k + 1, by omega, by go_num, by rw [ho.out, HS.out], hf1, kk.trans k1⟩
      case measure => simp [intOf]; omega
    · obtain rfl : k = n := by omega
      go_wp2
      go_ret
      exact ⟨rfl, hf, kk⟩
theorem align_ok {rest : List Bool} (h : Fl B br bf bd off cap d most fixed w rest window ov out) :
    Calls Tryz.prog 162 #[.pointer (some ⟨bf, 0, none⟩)] w fun e w' => e = .returned (.tuple #[]) ∧ (∃ p held, Bi B br bf bd off cap d most fixed w' p held 0 window ov out ∧ Fo.bitsOf (d.drop p) = rest.drop (rest.length % 8)) ∧ Kept 5 B [br, bf] w w' := by
  obtain ⟨p, held, left, hb, hl, hr⟩ := h
  have c2 := hb.c2
  have f2 := hb.fz 2
  have hlen : rest.length % 8 = left := by rw [← hr, bitsLeft, List.length_append, Fo.numBits_length, Fo.bitsOf_length]; omega
  go_enter Tryz.func162, Tryz.ntmps162
  go_wp2
  go_end0
  refine ⟨rfl, ⟨p, held, hb.set2 0 (by omega), ?_⟩, (Kept.refl _ _ _ _).setCell (by simp) _⟩
  rw [hlen, ← hr, bitsLeft, List.drop_left' (Fo.numBits_length _ _)]
end Go.Proofs.YtgkljcmjnphpeaaGreatDoor
namespace Go.Proofs.YtgkljcmjnphpeaaGreatDoor
open Go.RowKit
variable {B br bf bd off cap : Nat} {d : List Nat} {most : Nat} {fixed : List Value} {w : World} {p held left window : Nat} {ov : Value} {out : List Nat}
/-- Codes in memory: how many there are of each length; the symbols in the order of their codes. -/
def Cd (w : World) (bc oc : Nat) (cs ss : List Nat) : Prop :=
  (∀ i, i < 16 → w.cell? ⟨bc, oc + i, none⟩ = some (.int .i64 (nth cs i : Nat))) ∧
  ∃ g c, w.cell? ⟨bc, oc + 16, none⟩ = some (.slice (some ⟨g, 0, none⟩) ss.length c) ∧ ∀ i, i < ss.length → w.cell? ⟨g, i, none⟩ = some (.int .i64 (nth ss i : Nat))
def psum (cs : List Nat) : Nat → Nat
  | 0 => 0
  | k + 1 => psum cs k + nth cs (k + 1)
theorem psum_mono (cs : List Nat) (a b : Nat) (h : a ≤ b) : psum cs a ≤ psum cs b := by
  induction b with
  | zero => have : a = 0 := by omega
            rw [this]; exact Nat.le_refl _
  | succ b ih =>
    rcases Nat.lt_or_ge a (b + 1) with h1 | h1
    · have := ih (by omega); simp only [psum]; omega
    · have : a = b + 1 := by omega
      rw [this]; exact Nat.le_refl _
theorem or_low1 (x : Nat) (b : Bool) (hx : x < 2 ^ 60) : bits .or .i64 ((x : Int) * 2) (b.toNat : Nat) = ((2 * x + b.toNat : Nat) : Int) := by
  have hb : b.toNat ≤ 1 := by cases b <;> decide
  have e : ((x : Int) * 2) = ((2 * x : Nat) : Int) := by omega
  rw [e, i64_or_nat _ _ (by omega) (by omega)]
  have := or_low b.toNat x 1 (by omega)
  rw [Nat.or_comm, show 2 * x = x * 2 ^ 1 by omega, this]
  omega
set_option maxHeartbeats 1000000 in
theorem symbol_ok (bc oc : Nat) (cs ss : List Nat) (hsum : psum cs 15 ≤ ss.length) (hss : ss.length ≤ 1000) {s : Nat} {rest rest' : List Bool}
    (hC : ∀ w' r, Fl B br bf bd off cap d most fixed w' r window ov out → Kept 5 B [br, bf] w w' → Cd w' bc oc cs ss)
    (hs : Fo.sym cs ss rest = some (s, rest')) (h : Fl B br bf bd off cap d most fixed w rest window ov out) :
    Calls Tryz.prog 313 #[.pointer (some ⟨bf, 0, none⟩), .pointer (some ⟨bc, oc, none⟩)] w fun e w' => e = .returned (.int .i64 s) ∧ Fl B br bf bd off cap d most fixed w' rest' window ov out ∧ Kept 5 B [br, bf] w w' := by
  go_enter Tryz.func313, Tryz.ntmps313
  go_wp2
  go_loopw [5, 6, 7, 8] (fun c f pl l wr => ∃ (k code first : Nat) (r : List Bool), k ≤ 15 ∧ l = .int .i64 (k + 1 : Nat) ∧ c = .int .i64 code ∧ f = .int .i64 first ∧ pl = .int .i64 (psum cs k) ∧ first ≤ code ∧ code < 2 ^ k ∧ Hid (Fo.symGo cs ss (15 - k) (k + 1) code first (psum cs k) r = some (s, rest')) ∧ Fl B br bf bd off cap d most fixed wr r window ov out ∧ Kept 5 B [br, bf] w wr) (fun _ _ _ l _ => 16 - (intOf l).toNat)
  case atStart => exact ⟨0, 0, 0, rest, by omega, rfl, rfl, rfl, rfl, by omega, by omega, hs, h, Kept.refl _ _ _ _⟩
  case round =>
    obtain ⟨k, code, first, r, hk, rfl, rfl, rfl, rfl, hfc, hc2, hg, hf, kk⟩ := hrel
    by_cases hlt : k < 15
    · obtain ⟨m, hm⟩ : ∃ m, 15 - k = m + 1 := ⟨14 - k, by omega⟩
      cases r with
      | nil => have hg2 := hg.out; rw [hm] at hg2; simp [Fo.symGo] at hg2
      | cons b r =>
        have hp15 := psum_mono cs (k + 1) 15 (by omega)
        have hpk : psum cs (k + 1) = psum cs k + nth cs (k + 1) := rfl
        have ht : 2 ^ k ≤ 2 ^ 14 := Nat.pow_le_pow_right (by omega) (by omega)
        have hb : b.toNat ≤ 1 := by cases b <;> decide
        have ho := or_low1 code b (by omega)
        have hpw : 2 ^ (k + 1) = 2 * 2 ^ k := by rw [Nat.pow_succ]; omega
        generalize hN : nth cs (k + 1) = N at *
        have HN := hide hN
        clear hN
        generalize hPK : psum cs k = P at *
        generalize hPK1 : psum cs (k + 1) = P1 at *
        have HPK1 := hide hPK1
        clear hPK hPK1
        go_wp2_with fail
        refine (bit_ok hf).mono ?_
        rintro e w1 ⟨rfl, hf1, k1⟩
        obtain ⟨hcs, g, c, hg1, hss1⟩ := hC w1 r hf1 (kk.trans k1)
        have hcc := hcs (k + 1) (by omega)
        rw [HN.out] at hcc
        clear hcs
        have hg2 := hg.out
        rw [hm] at hg2
        simp only [Fo.symGo] at hg2
        rw [show cs.getD (k + 1) 0 = N from HN.out] at hg2
        by_cases hlt2 : 2 * code + b.toNat < 2 * first + N
        · rw [if_pos hlt2] at hg2
          simp only [Option.some.injEq, Prod.mk.injEq] at hg2
          obtain ⟨hs1, rfl⟩ := hg2
          have hld := hss1 (P + (2 * code + b.toNat) - first * 2) (by omega)
          rw [show nth ss (P + (2 * code + b.toNat) - first * 2) = s by rw [← hs1, nth, Nat.mul_comm first 2]] at hld
          clear hs1 hss1 hg hs
          go_wp2
          go_ret
          exact ⟨rfl, hf1, kk.trans k1⟩
        · rw [if_neg hlt2] at hg2
          have HG : Hid (Fo.symGo cs ss (15 - (k + 1)) (k + 1 + 1) (2 * code + b.toNat) (2 * first + N) P1 r = some (s, rest')) := by
            rw [hpk, show 15 - (k + 1) = m by omega]; exact hg2
          have HP := hide hpk
          have hpn : P + N ≤ 1000 := by omega
          clear hg2 hss1 hg hs hpk
          go_wp2
          go_roundw
          case rel =>
            refine ⟨k + 1, 2 * code + b.toNat, 2 * first + N, r, by omega, by go_num, by go_num, by go_num, ?_, by omega, by omega, ?_, hf1, kk.trans k1⟩
            · rw [HPK1.out]; have := HP.out; subst this; go_num
            · rw [HPK1.out]; exact HG
          case measure => simp [intOf]; omega
    · have hg2 := hg.out
      rw [show 15 - k = 0 by omega] at hg2
      simp [Fo.symGo] at hg2
end Go.Proofs.YtgkljcmjnphpeaaGreatDoor
namespace Go.Proofs.YtgkljcmjnphpeaaGreatDoor
open Go.RowKit
variable {B br bf bd off cap : Nat} {d : List Nat} {most : Nat} {fixed : List Value} {w : World} {p held left window : Nat} {ov : Value} {out : List Nat}
theorem ret_int {k : IntKind} {a b : Int} (h : a = b) : Ending.returned (.int k a) = .returned (.int k b) := by rw [h]
def spanVal (x : Nat × Nat) : Value := .agg #[.int .i64 (x.1 : Nat), .int .i64 (x.2 : Nat)]
theorem len_val : ∀ s : Fin 286, 265 ≤ s.val → s.val ≠ 285 → wrap64 (3 + wrap64 ((4 + ((s.val : Int) - 257) % 4) * 2 ^ ((s.val - 257) / 4 - 1))) = ((Fo.lenSpan s.val).1 : Nat) ∧ ((s.val : Int) - 257) / 4 - 1 = ((Fo.lenSpan s.val).2 : Nat) := by decide +kernel
theorem lengthSpan_ok (s : Nat) (h1 : 257 ≤ s) (h2 : s ≤ 285) (w : World) : Calls Tryz.prog 267 #[.int .i64 s] w fun e w' => e = .returned (spanVal (Fo.lenSpan s)) ∧ ∃ o, w' = w.alloc o := by
  by_cases c1 : s = 285
  · subst c1
    go_enter Tryz.func267, Tryz.ntmps267
    go_wp2
    refine bodyPost_ret (v := spanVal (Fo.lenSpan 285)) (by simp [results, Tryz.results267, go_sem, spanVal, Fo.lenSpan]) rfl ⟨rfl, ?_⟩
    exact ⟨_, rfl⟩
  have e1 : ((s : Int) == 285) = false := by simp; omega
  by_cases c2 : s - 257 < 8
  · have c3 : (s : Int) - 257 < 8 := by omega
    go_enter Tryz.func267, Tryz.ntmps267
    go_wp2
    refine bodyPost_ret (v := spanVal (Fo.lenSpan s)) ?_ rfl ⟨rfl, ?_⟩
    · simp [results, Tryz.results267, go_sem, spanVal, Fo.lenSpan, c1, c2]; omega
    · exact ⟨_, rfl⟩
  · have c3 : ¬ (s : Int) - 257 < 8 := by omega
    have g1 : 0 ≤ ((s : Int) - 257) / 4 - 1 := by omega
    have g2 : ((s : Int) - 257) / 4 - 1 < 6 := by omega
    go_enter Tryz.func267, Tryz.ntmps267
    go_wp2
    obtain ⟨v1, v2⟩ := len_val ⟨s, by omega⟩ (by show 265 ≤ s; omega) c1
    simp only [] at v1 v2
    refine bodyPost_ret (v := spanVal (Fo.lenSpan s)) ?_ rfl ⟨rfl, ?_⟩
    · simp [results, Tryz.results267, go_sem, spanVal, v1, v2]
    · exact ⟨_, rfl⟩
theorem dist_val : ∀ s : Fin 30, 4 ≤ s.val → wrap64 (1 + wrap64 ((2 + (s.val : Int) % 2) * 2 ^ (s.val / 2 - 1))) = ((Fo.distSpan s.val).1 : Nat) ∧ (s.val : Int) / 2 - 1 = ((Fo.distSpan s.val).2 : Nat) := by decide +kernel
theorem distanceSpan_ok (s : Nat) (h2 : s ≤ 29) (w : World) : Calls Tryz.prog 269 #[.int .i64 s] w fun e w' => e = .returned (spanVal (Fo.distSpan s)) ∧ ∃ o, w' = w.alloc o := by
  by_cases c1 : s < 4
  · have c3 : (s : Int) < 4 := by omega
    go_enter Tryz.func269, Tryz.ntmps269
    go_wp2
    refine bodyPost_ret (v := spanVal (Fo.distSpan s)) ?_ rfl ⟨rfl, ?_⟩
    · simp [results, Tryz.results269, go_sem, spanVal, Fo.distSpan, c1]
    · exact ⟨_, rfl⟩
  · have c3 : ¬ (s : Int) < 4 := by omega
    have g1 : 0 ≤ (s : Int) / 2 - 1 := by omega
    have g2 : (s : Int) / 2 - 1 < 14 := by omega
    go_enter Tryz.func269, Tryz.ntmps269
    go_wp2
    obtain ⟨v1, v2⟩ := dist_val ⟨s, by omega⟩ (by show 4 ≤ s; omega)
    simp only [] at v1 v2
    refine bodyPost_ret (v := spanVal (Fo.distSpan s)) ?_ rfl ⟨rfl, ?_⟩
    · simp [results, Tryz.results269, go_sem, spanVal, v1, v2]
    · exact ⟨_, rfl⟩
/-- which number of a span is meant -/
theorem within_ok (x : Nat × Nat) (hx : x.2 ≤ 15) (hx1 : x.1 ≤ 100000) {rest : List Bool} (hr : x.2 ≤ rest.length) (h : Fl B br bf bd off cap d most fixed w rest window ov out) :
    Calls Tryz.prog 314 #[.pointer (some ⟨bf, 0, none⟩), spanVal x] w fun e w' => e = .returned (.int .i64 (x.1 + Fo.val (rest.take x.2) : Nat)) ∧ Fl B br bf bd off cap d most fixed w' (rest.drop x.2) window ov out ∧ Kept 5 B [br, bf] w w' := by
  unfold spanVal
  obtain ⟨l1, l2, l3, l4⟩ := h.lt
  have hv := Fo.val_lt (rest.take x.2)
  rw [List.length_take, Nat.min_eq_left hr] at hv
  have hp : 2 ^ x.2 ≤ 2 ^ 15 := Nat.pow_le_pow_right (by omega) hx
  have hbig : Fo.val (rest.take x.2) < 32768 := by omega
  clear hv hp
  go_enter Tryz.func314, Tryz.ntmps314
  go_wp2_with fail
  go_region_with (go_at_call 221; refine (bits_ok x.2 (by omega) hr ((h.alloc (.cells #[.int .i64 (x.1 : Nat), .int .i64 (x.2 : Nat)] 247)).drew)).mono ?_; rintro e w1 ⟨rfl, hf1, k1⟩; have hbox := k1.block w.heap.size _ (by simp; omega) (show (w.alloc (.cells #[.int .i64 (x.1 : Nat), .int .i64 (x.2 : Nat)] 247)).drew.heap[w.heap.size]? = _ from blk_new _ _) (Or.inr (by intro c fz e; simp at e)); have hb0 : w1.cell? ⟨w.heap.size, 0, none⟩ = some (.int .i64 (x.1 : Nat)) := (by rw [cell_blk hbox]; rfl))
  all_goals (have kk := (((Kept.refl 5 B [br, bf] w).alloc (.cells #[.int .i64 (x.1 : Nat), .int .i64 (x.2 : Nat)] 247)).drew).trans k1; clear k1 hbox hb0)
  all_goals go_wp2
  all_goals go_ret
  all_goals exact ⟨ret_int (by first | (rw [IntKind.wrap_i64]; omega) | omega), hf1, kk⟩
end Go.Proofs.YtgkljcmjnphpeaaGreatDoor
namespace Go
theorem step_append_own' {P : Program} {w : World} {ops : Array Oper} {o : Oper} {a : Act} {K : Act → World → Prop} {Q : Exit → Act → World → Prop} {E : Prop} (hgd : o.guard = none) (s x : Operand) (t : TypeId)
    (ho : o.op = .call { callee := .builtin .append, args := #[s, x], argTypes := #[t, t] })
    (base : Nat) (e : TypeId) (i : TypeInfo) (z : Value) (size bytes : Nat) (ht : P.underlying t = some (.slice e)) (hi : P.info? e = some i) (hz : i.zero = some z)
    (hsize : i.size = size) (hby : i.bytes = bytes) (hzs : z.cells.size = size) (hsz : 0 < size)
    (v : Value) (n : Nat) (xs : List Value) (hs : a.eval s = v) (hown : w.ownsRow base e size v n xs)
    (ad : Addr) (m c : Nat) (news : List Value) (hx : a.eval x = .slice (some ad) m c) (hl : news.length = m * size) (hnews : ∀ j u, news[j]? = some u → w.cell? (ad.add j) = some u) (h1 : ∀ u ∈ news, u.oneCell' = true)
    (h63 : n + m ≤ maxLen) (hbytes : (n + m) * bytes ≤ 140737488355328) (hbase : base ≤ w.heap.size)
    (h : ∀ v' w', w'.ownsRow base e size v' (n + m) (xs ++ news) → w.grownBy w' v.ownBlock → (v' = .slice none 0 0 ↔ v = .slice none 0 0 ∧ m = 0) → K (a.put o.dst v') w') :
    if Region.wanted o (yielded ops a.tmps) = true then Oper.wp P o a w K Q else E := by
  have hw : Region.wanted o (yielded ops a.tmps) = true := by simp [Region.wanted, hgd]
  rw [if_pos hw]
  exact wp_append_own w s x t ho base e i z size bytes ht hi hz hsize hby hzs hsz v n xs hs hown ad m c news hx hl hnews h1 h63 hbytes hbase h
section
variable {P : Program} {w : World}
theorem addr_add (g j : Nat) : (⟨g, 0, none⟩ : Addr).add j = ⟨g, j, none⟩ := by unfold Addr.add; split <;> simp_all
/-- append onto an own row that is not nil: what the row held before is still to be read at its place. -/
theorem run_append_keep (base : Nat) (t ty e : TypeId) (i : TypeInfo) (z : Value) (size bytes : Nat) (ht : P.underlying t = some (.slice e)) (hi : P.info? e = some i) (hz : i.zero = some z)
    (hsize : i.size = size) (hby : i.bytes = bytes) (hzs : z.cells.size = size) (hsz : 0 < size)
    (g n cap : Nat) (xs : List Value) (hown : w.ownsRow base e size (.slice (some ⟨g, 0, none⟩) n cap) n xs)
    (a : Addr) (m c : Nat) (news : List Value) (hl : news.length = m * size) (hnews : ∀ j u, news[j]? = some u → w.cell? (a.add j) = some u) (h1 : ∀ u ∈ news, u.oneCell' = true)
    (h63 : n + m ≤ maxLen) (hbytes : (n + m) * bytes ≤ 140737488355328) (hbase : base ≤ w.heap.size) :
    ∃ v' w', (Builtin.append_ #[t, t] ty #[.slice (some ⟨g, 0, none⟩) n cap, .slice (some a) m c]).run P w = .ok v' w' ∧ w'.ownsRow base e size v' (n + m) (xs ++ news) ∧ w.grownBy w' (some g) ∧
      (∀ j u, xs[j]? = some u → w'.cell? ⟨g, j, none⟩ = some u) := by
  obtain ⟨v', w', hr, h2, h3, _⟩ := run_append_own (P := P) w base t ty e i z size bytes ht hi hz hsize hby hzs hsz _ n xs hown a m c news hl hnews h1 h63 hbytes hbase
  refine ⟨v', w', hr, h2, h3, ?_⟩
  have hsmall : n + m ≤ 9223372036854775807 := by simp only [maxLen] at h63; omega
  have hlt : g < w.heap.size := (hown.lt g rfl).2
  subst hsize
  rcases hown.2 with ⟨h0, _⟩ | ⟨g', cap', cur, hv, _, hg, _, _, hcs, _⟩
  · cases h0
  cases hv
  intro j u hu
  by_cases hroom : n + m ≤ cap
  · have hfit : n * i.size + news.length ≤ cur.size := by rw [hl, hcs, ← Nat.add_mul]; exact Nat.mul_le_mul_right _ hroom
    have hr2 := run_append_room (P := P) w t ty e i ht hi g n cap cur hg a m c news hl hnews h1 hroom hfit
    rw [hr] at hr2
    injection hr2 with e1 e2
    subst e1
    have := h2.cells (g := g) rfl j u (by rw [List.getElem?_append_left (List.getElem?_eq_some_iff.1 hu).1]; exact hu)
    rwa [addr_add] at this
  · subst hby
    have holds : ∀ j u, xs[j]? = some u → w.cell? ((⟨g, 0, none⟩ : Addr).add j) = some u := hown.cells (g := g) rfl
    have hr2 := run_append_grow (P := P) w t ty e i z ht hi hz ⟨g, 0, none⟩ n cap xs hown.1 holds a m c news hl hnews (by omega) (by omega) (growslice_fits (by omega) hbytes)
    rw [hr] at hr2
    injection hr2 with e1 e2
    subst e2
    rw [World.cell?_alloc_lt _ _ _ (by show g < w.drew.heap.size; simpa using hlt)]
    have := holds j u hu
    rwa [addr_add] at this
theorem step_append_keep {ops : Array Oper} {o : Oper} {a : Act} {K : Act → World → Prop} {Q : Exit → Act → World → Prop} {E : Prop} (hgd : o.guard = none) (s x : Operand) (t : TypeId)
    (ho : o.op = .call { callee := .builtin .append, args := #[s, x], argTypes := #[t, t] })
    (base : Nat) (e : TypeId) (i : TypeInfo) (z : Value) (size bytes : Nat) (ht : P.underlying t = some (.slice e)) (hi : P.info? e = some i) (hz : i.zero = some z)
    (hsize : i.size = size) (hby : i.bytes = bytes) (hzs : z.cells.size = size) (hsz : 0 < size)
    (g n cap : Nat) (xs : List Value) (hs : a.eval s = .slice (some ⟨g, 0, none⟩) n cap) (hown : w.ownsRow base e size (.slice (some ⟨g, 0, none⟩) n cap) n xs)
    (ad : Addr) (m c : Nat) (news : List Value) (hx : a.eval x = .slice (some ad) m c) (hl : news.length = m * size) (hnews : ∀ j u, news[j]? = some u → w.cell? (ad.add j) = some u) (h1 : ∀ u ∈ news, u.oneCell' = true)
    (h63 : n + m ≤ maxLen) (hbytes : (n + m) * bytes ≤ 140737488355328) (hbase : base ≤ w.heap.size)
    (h : ∀ v' w', w'.ownsRow base e size v' (n + m) (xs ++ news) → w.grownBy w' (some g) → (∀ j u, xs[j]? = some u → w'.cell? ⟨g, j, none⟩ = some u) → K (a.put o.dst v') w') :
    if Region.wanted o (yielded ops a.tmps) = true then Oper.wp P o a w K Q else E := by
  have hw : Region.wanted o (yielded ops a.tmps) = true := by simp [Region.wanted, hgd]
  rw [if_pos hw]
  obtain ⟨v', w', hr, h2, h3, h4⟩ := run_append_keep (P := P) (w := w) base t o.type e i z size bytes ht hi hz hsize hby hzs hsz g n cap xs hown ad m c news hl hnews h1 h63 hbytes hbase
  unfold Oper.wp execOp
  simp only [ho, resolve, invoke, builtin, Sem.run_bind, Sem.run_pure, Result.andThen_ok, List.map_toArray, List.map_cons, List.map_nil, hs, hx, hr]
  exact h v' w' h2 h3 h4
end
end Go
