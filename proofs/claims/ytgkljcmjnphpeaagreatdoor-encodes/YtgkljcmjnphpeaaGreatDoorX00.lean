/- deflater.step. -/
import Derived.Test.YtgkljcmjnphpeaaGreatDoorK00
import Derived.Test.YtgkljcmjnphpeaaGreatDoorK01
import Derived.Test.YtgkljcmjnphpeaaGreatDoorK02
import Derived.Test.YtgkljcmjnphpeaaGreatDoorK03
import Derived.Test.YtgkljcmjnphpeaaGreatDoorK04
import Derived.Test.YtgkljcmjnphpeaaGreatDoorK05
import Derived.Test.YtgkljcmjnphpeaaGreatDoorK06
import Derived.Test.YtgkljcmjnphpeaaGreatDoorK07
import Derived.Test.YtgkljcmjnphpeaaGreatDoorK08
import Derived.Test.YtgkljcmjnphpeaaGreatDoorK09
import Derived.Test.YtgkljcmjnphpeaaGreatDoorK10
import Derived.Test.YtgkljcmjnphpeaaGreatDoorK11
import Derived.Test.YtgkljcmjnphpeaaGreatDoorK12
import Derived.Test.YtgkljcmjnphpeaaGreatDoorK13
import Derived.Test.YtgkljcmjnphpeaaGreatDoorK14
import Derived.Test.YtgkljcmjnphpeaaGreatDoorK15
import Derived.Test.YtgkljcmjnphpeaaGreatDoorK16
import Derived.Test.YtgkljcmjnphpeaaGreatDoorK17
import Derived.Test.YtgkljcmjnphpeaaGreatDoorK18
import Derived.Test.YtgkljcmjnphpeaaGreatDoorK19
import Derived.Test.YtgkljcmjnphpeaaGreatDoorK20
import Derived.Test.YtgkljcmjnphpeaaGreatDoorK21
import Derived.Test.YtgkljcmjnphpeaaGreatDoorK22
import Derived.Test.YtgkljcmjnphpeaaGreatDoorK23
import Derived.Test.YtgkljcmjnphpeaaGreatDoorK24
import Derived.Test.YtgkljcmjnphpeaaGreatDoorK25
import Derived.Test.YtgkljcmjnphpeaaGreatDoorK26
import Derived.Test.YtgkljcmjnphpeaaGreatDoorK27
import Derived.Test.YtgkljcmjnphpeaaGreatDoorK28
import Derived.Test.YtgkljcmjnphpeaaGreatDoorK29
import Derived.Test.YtgkljcmjnphpeaaGreatDoorK30
import Derived.Test.YtgkljcmjnphpeaaGreatDoorK31
import Derived.Test.YtgkljcmjnphpeaaGreatDoorK32
import Derived.Test.YtgkljcmjnphpeaaGreatDoorK33
import Derived.Test.YtgkljcmjnphpeaaGreatDoorK34
import Derived.Test.YtgkljcmjnphpeaaGreatDoorK35
import Derived.Test.YtgkljcmjnphpeaaGreatDoorK36
import Derived.Test.YtgkljcmjnphpeaaGreatDoorK37
import Derived.Test.YtgkljcmjnphpeaaGreatDoorK38
import Derived.Test.YtgkljcmjnphpeaaGreatDoorK39
import Derived.Test.YtgkljcmjnphpeaaGreatDoorK40
import Derived.WalkKit
import Derived.Laws.BitsAllLaws
import Derived.BigRegion
import Derived.StillTailTactics
import Derived.Deep.MidRow
import Derived.MapKept
set_option linter.unusedVariables false
set_option linter.unusedSimpArgs false
namespace Go.Proofs.YtgkljcmjnphpeaaGreatDoor.Fo
theorem BW.bit0 {out bs} (h : BW out 0 bs) (b : Bool) : BW (out ++ [b.toNat]) 1 (bs ++ [b]) := by
  obtain ⟨_, h2, h3, h4⟩ := h
  refine ⟨by omega, by simp; omega, ?_, ?_⟩
  · intro x hx
    rcases List.mem_append.1 hx with hx | hx
    · exact h3 x hx
    · simp at hx; subst hx; cases b <;> decide
  · rw [bitsOf_append, h4]
    cases b <;> simp [bitsOf, bits8, List.replicate] <;> decide
end Go.Proofs.YtgkljcmjnphpeaaGreatDoor.Fo
/- Plain mathematics of codes, symbols, spans and parts for the packed filter. -/
namespace Go.Proofs.YtgkljcmjnphpeaaGreatDoor.Fo
theorem Enc.lit {data : List Nat} {k : Nat} {bs : List Bool} (h : Enc data k bs) (hk : k < data.length) (hb : ∀ x ∈ data, x < 256) : Enc data (k + 1) (bs ++ litBits (data.getD k 0)) := by
  refine h.step (by omega) (by omega) fun r most => ?_
  have e : data.getD k 0 = data[k] := by rw [List.getD_eq_getElem?_getD, List.getElem?_eq_getElem (by omega)]; rfl
  rw [part_lit _ _ _ (by rw [e]; exact hb _ (List.getElem_mem _)), List.length_take, Nat.min_eq_left (by omega), List.take_succ_eq_append_getElem (by omega), e]
end Go.Proofs.YtgkljcmjnphpeaaGreatDoor.Fo
namespace Go.Proofs.YtgkljcmjnphpeaaGreatDoor.Fo
section
variable {c : Codes} {window most : Nat} {r r' : List Bool} {out out' : List Nat} {res : Except Nat (List Bool × List Nat)}
end
end Go.Proofs.YtgkljcmjnphpeaaGreatDoor.Fo
namespace Go
open Go.RowKit
theorem i64_and_nat (a b : Nat) (ha : a < 2 ^ 63) (hb : b < 2 ^ 63) : bits .and .i64 (a : Int) (b : Int) = ((a &&& b : Nat) : Int) := by
  show IntKind.i64.wrap ((BitVec.ofInt 64 (a : Int) &&& BitVec.ofInt 64 (b : Int)).toNat : Int) = _
  rw [BitVec.toNat_and, ofInt_i64 a ha, ofInt_i64 b hb, wrap_i64_nat _ (Nat.lt_of_le_of_lt Nat.and_le_left ha)]
end Go
namespace Go.Proofs.YtgkljcmjnphpeaaGreatDoor
open Go.RowKit
variable {w : World}
variable {B bw T : Nat} {rest : List Value} {ov : Value} {out : List Nat} {used : Nat} {bs : List Bool}
/-- How long what a writer holds is. -/
theorem bw_len (h : Fo.BW out used bs) : out.length = (bs.length + 7) / 8 := by
  obtain ⟨h1, h2, _, h4⟩ := h
  have := congrArg List.length h4
  rw [Fo.bitsOf_length, List.length_append, List.length_replicate] at this
  omega
/-- A row laid behind what there is. -/
theorem Wq.app {w1 : World} {v : Value} {xs : List Nat} (h : Wq B bw T rest w ov out used)
    (hown : w1.ownsRow B 5 1 v (out.length + xs.length) ((out.map fun x : Nat => .int .u8 (x : Int)) ++ (xs.map fun x : Nat => .int .u8 (x : Int)))) (hg : w.grownBy w1 ov.ownBlock) :
    Wq B bw T rest (w1.setCell ⟨bw, 0, none⟩ v) v (out ++ xs) used ∧ Kept 5 B [bw] w (w1.setCell ⟨bw, 0, none⟩ v) ∧ w1.cell? ⟨bw, 0, none⟩ = some ov ∧ w1.frozen? ⟨bw, 0, none⟩ = false := by
  have hk : w1.heap[bw]? = some (.cells (ov :: .int .i64 used :: rest).toArray T (0, 0)) := by
    rw [hg.block bw (lt_of_block h.blk) (fun c => own_ne h.own h.blk h.hT c.symm)]; exact h.blk
  refine ⟨⟨h.hb, h.hT, ?_, ?_⟩, ((Kept.refl 5 B [bw] w).grown hg (own_row h.own)).setCell (by simp) _, by rw [cell_blk hk]; simp, free_blk hk⟩
  · rw [blk_setCell _ hk]; simp
  · rw [List.length_append, List.map_append]
    exact ownsRow_setCell_other hown (own_ne hown hk h.hT) _
theorem or_byte (x u : Nat) (b : Bool) (hx : x < 256) (hu : u < 8) : bits .or .u8 (x : Int) (wrap64 ((b.toNat : Int) * 2 ^ u) % 256) = ((x ||| (b.toNat <<< u) : Nat) : Int) := by
  have h1 : 2 ^ u ≤ 2 ^ 7 := Nat.pow_le_pow_right (by omega) (by omega)
  have h2 : b.toNat * 2 ^ u ≤ 1 * 2 ^ u := Nat.mul_le_mul_right _ (by cases b <;> decide)
  have e : ((b.toNat : Int) * 2 ^ u) = ((b.toNat * 2 ^ u : Nat) : Int) := by rw [Int.natCast_mul, Int.natCast_pow]; rfl
  rw [e, wrap64_nat _ (by omega), show (((b.toNat * 2 ^ u : Nat) : Int) % 256) = ((b.toNat * 2 ^ u : Nat) : Int) by omega, u8_or_nat x _ hx (by omega), Nat.shiftLeft_eq]
set_option maxRecDepth 100000 in
set_option maxHeartbeats 1000000 in
theorem wbit_more {g c : Nat} {pre : List Nat} {last : Nat} (h : Wq B bw T rest w (.slice (some ⟨g, 0, none⟩) (pre ++ [last]).length c) (pre ++ [last]) used) (hu : 0 < used) (hu8 : used < 8) (hlast : last < 256) (hlo : pre.length ≤ 1099511627776) (b : Bool) :
    Calls Tryz.prog 262 #[.pointer (some ⟨bw, 0, none⟩), .int .i64 (b.toNat : Nat)] w fun e w' => e = .returned (.tuple #[]) ∧ ∃ ov', Wq B bw T rest w' ov' (pre ++ [last ||| b.toNat <<< used]) ((used + 1) % 8) ∧ Kept 5 B [bw] w w' := by
  have c0 := h.c0
  have c1 := h.c1
  have f1 := h.fz 1
  have hcell := h.own.cellAt pre.length (by simp)
  have hfz := h.own.frozenAt pre.length
  have hlen : (pre ++ [last]).length = pre.length + 1 := by simp
  rw [hlen] at c0
  have e1 : ((used : Int) == 0) = false := by simp; omega
  have hc2 : w.cell? ⟨g, pre.length, none⟩ = some (.int .u8 last) := by rw [hcell]; simp
  have hne : bw ≠ g := fun e => own_ne h.own h.blk h.hT (by rw [e]; rfl)
  have hne' : g ≠ bw := fun e => hne e.symm
  have HP := hide (h.put (last ||| b.toNat <<< used) ((used + 1) % 8))
  have ho := hide (or_byte last used b hlast hu8)
  have hb1 : b.toNat ≤ 1 := by cases b <;> decide
  clear hcell h hlen
  go_enter Tryz.func262, Tryz.ntmps262
  go_wp2_with fail
  go_region
  all_goals go_wp2
  all_goals (go_end0; rw [ho.out, show ((used : Int) + 1) % 8 = (((used + 1) % 8 : Nat) : Int) by omega]; exact ⟨rfl, _, HP.out.1, HP.out.2⟩)
set_option maxRecDepth 100000 in
set_option maxHeartbeats 1000000 in
theorem wbit_first (h : Wq B bw T rest w ov out 0) (hlo : out.length ≤ 1099511627776) (b : Bool) :
    Calls Tryz.prog 262 #[.pointer (some ⟨bw, 0, none⟩), .int .i64 (b.toNat : Nat)] w fun e w' => e = .returned (.tuple #[]) ∧ ∃ ov', Wq B bw T rest w' ov' (out ++ [b.toNat]) 1 ∧ Kept 5 B [bw] w w' := by
  obtain ⟨i0, hi, hz0, hz1, hz2⟩ := info_parts Tryz.infoByte
  have c0 := h.c0
  have c1 := h.c1
  have hs := h.sz
  go_enter Tryz.func262, Tryz.ntmps262
  go_wp2_with (at_builtin; refine wpList_append_own _ rfl (.tmp 13) (.tmp 14) 23 rfl B 5 i0 (.int .u8 0) 1 1 Tryz.underlying23 hi hz0 hz1 hz2 rfl (by decide) ov out.length _ rfl (h.alloc _).own ⟨w.heap.size, 0, none⟩ 1 1 [.int .u8 0] rfl (by simp) ?hnews ?hone ?h63 ?hby ?hbs ?_)
  case hnews =>
    intro j u hu
    have hj : j < 1 := by have := (List.getElem?_eq_some_iff.1 hu).1; simpa using this
    obtain rfl : j = 0 := by omega
    show (w.alloc _).cell? ⟨w.heap.size, 0 + 0, none⟩ = _
    rw [World.cell?_alloc_new]; simpa using hu
  case hone => intro u hu; simp at hu; subst hu; rfl
  case h63 => unfold maxLen; omega
  case hby => omega
  case hbs => simp; omega
  intro v' w1 hown hg0 _
  obtain ⟨q, k, d0, f0⟩ := (h.alloc _).app (xs := [0]) hown ⟨hg0.os, hg0.tape, hg0.output, hg0.size, hg0.block⟩
  have k0 := hide (((Kept.refl 5 B [bw] w).alloc _).trans k)
  clear hg0 k
  have hlen : (out ++ [0]).length = out.length + 1 := by simp
  obtain ⟨g, c, hv, hBg⟩ := own_form q.own (by simp)
  rw [hlen] at hv
  subst hv
  go_wp2_with fail
  clear c0 c1 hown d0 f0 hz0 hz1 hz2 hi h
  generalize hW : w1.setCell ⟨bw, 0, none⟩ _ = w2 at *
  clear hW
  have c0 := q.c0
  have c1 := q.c1
  have f1 := q.fz 1
  rw [← hlen] at q
  have hcell := q.own.cellAt out.length (by simp)
  have hfz := q.own.frozenAt out.length
  have hc2 : w2.cell? ⟨g, out.length, none⟩ = some (.int .u8 0) := by rw [hcell]; simp
  have hne : bw ≠ g := fun e => own_ne q.own q.blk q.hT (by rw [e]; rfl)
  have hne' : g ≠ bw := fun e => hne e.symm
  have HP := hide (q.put b.toNat 1)
  have ho := hide (or_byte 0 0 b (by omega) (by omega))
  have hb1 : b.toNat ≤ 1 := by cases b <;> decide
  clear hcell q hlen
  go_region
  all_goals go_wp2
  all_goals go_end0
  have e0 : bits .or .u8 0 (b.toNat : Int) = (b.toNat : Nat) := by cases b <;> decide
  rw [e0]
  exact ⟨rfl, _, HP.out.1, k0.out.trans HP.out.2⟩
theorem wbit_ok (h : Wx B bw T rest w bs) (hl : bs.length ≤ 1099511627776) (b : Bool) :
    Calls Tryz.prog 262 #[.pointer (some ⟨bw, 0, none⟩), .int .i64 (b.toNat : Nat)] w fun e w' => e = .returned (.tuple #[]) ∧ Wx B bw T rest w' (bs ++ [b]) ∧ Kept 5 B [bw] w w' := by
  obtain ⟨ov, out, used, hq, hb⟩ := h
  have hn := bw_len hb
  by_cases h0 : used = 0
  · subst h0
    refine (wbit_first hq (by omega) b).mono ?_
    rintro e w' ⟨rfl, ov', q', k⟩
    exact ⟨rfl, ⟨ov', _, _, q', hb.bit0 b⟩, k⟩
  · have hpos : 0 < out.length := by
      have := hb.2.1
      omega
    obtain ⟨pre, last, rfl⟩ : ∃ pre last, out = pre ++ [last] := ⟨out.dropLast, out.getLast (by intro e; rw [e] at hpos; simp at hpos), (List.dropLast_concat_getLast _).symm⟩
    obtain ⟨g, c, rfl, _⟩ := own_form hq.own hpos
    have hlast : last < 256 := hb.2.2.1 last (by simp)
    refine (wbit_more hq (by omega) hb.1 hlast (by simp at hn; omega) b).mono ?_
    rintro e w' ⟨rfl, ov', q', k⟩
    exact ⟨rfl, ⟨ov', _, _, q', hb.bit (by omega) b⟩, k⟩
end Go.Proofs.YtgkljcmjnphpeaaGreatDoor
namespace Go.Proofs.YtgkljcmjnphpeaaGreatDoor
open Go.RowKit
variable {w : World} {B bw T : Nat} {rest : List Value} {ov : Value} {out : List Nat} {used : Nat} {bs : List Bool}
theorem numBits_snoc (n v : Nat) : Fo.numBits (n + 1) v = Fo.numBits n v ++ [(v / 2 ^ n) % 2 == 1] := by
  induction n generalizing v with
  | zero => simp [Fo.numBits]
  | succ n ih =>
    rw [Fo.numBits, ih (v / 2), Fo.numBits, List.cons_append, Nat.div_div_eq_div_mul, ← Nat.pow_succ']
theorem and_shift (v i : Nat) (hv : v < 2 ^ 62) : bits .and .i64 ((v : Int) / 2 ^ i) 1 = (((v / 2 ^ i) % 2 == 1).toNat : Nat) := by
  have e : ((v : Int) / 2 ^ i) = ((v / 2 ^ i : Nat) : Int) := by rw [Int.natCast_ediv, Int.natCast_pow]; rfl
  have h1 : v / 2 ^ i ≤ v := Nat.div_le_self _ _
  have h2 := i64_and_nat (v / 2 ^ i) 1 (by omega) (by omega)
  rw [e]
  refine h2.trans ?_
  rw [nat_mask1]
  rcases Nat.mod_two_eq_zero_or_one (v / 2 ^ i) with h | h <;> rw [h] <;> rfl
set_option maxHeartbeats 400000 in
theorem wbits_ok (h : Wx B bw T rest w bs) (v n : Nat) (hv : v < 2 ^ 62) (hn : n ≤ 62) (hl : bs.length + n ≤ 1099511627776) :
    Calls Tryz.prog 203 #[.pointer (some ⟨bw, 0, none⟩), .int .i64 v, .int .i64 n] w fun e w' => e = .returned (.tuple #[]) ∧ Wx B bw T rest w' (bs ++ Fo.numBits n v) ∧ Kept 5 B [bw] w w' := by
  go_enter Tryz.func203, Tryz.ntmps203
  go_wp2
  go_loopw [8] (fun i wr => ∃ k : Nat, k ≤ n ∧ i = .int .i64 k ∧ Wx B bw T rest wr (bs ++ Fo.numBits k v) ∧ Kept 5 B [bw] w wr) (fun i _ => n - (intOf i).toNat)
  case atStart => exact ⟨0, Nat.zero_le _, rfl, by simpa [Fo.numBits] using h, Kept.refl _ _ _ _⟩
  case round =>
    obtain ⟨k, hk, rfl, hf, kk⟩ := hrel
    by_cases hlt : k < n
    · have ho := and_shift v k hv
      have hlen : (bs ++ Fo.numBits k v).length ≤ 1099511627776 := by rw [List.length_append, Fo.numBits_length]; omega
      have hs := hide (numBits_snoc k v)
      clear hv
      go_wp2_with fail
      refine (wbit_ok hf hlen _).mono ?_
      rintro e w1 ⟨rfl, hf1, k1⟩
      go_wp2
      go_roundw
      case rel => exact ⟨k + 1, by omega, by go_num, by rw [hs.out, ← List.append_assoc]; exact hf1, kk.trans k1⟩
      case measure => simp [intOf]; omega
    · obtain rfl : k = n := by omega
      go_wp2
      go_end0
      exact ⟨rfl, hf, kk⟩
theorem walign_ok (h : Wx B bw T rest w bs) :
    Calls Tryz.prog 270 #[.pointer (some ⟨bw, 0, none⟩)] w fun e w' => e = .returned (.tuple #[]) ∧ Wx B bw T rest w' (bs ++ List.replicate ((8 - bs.length % 8) % 8) false) ∧ Kept 5 B [bw] w w' := by
  obtain ⟨ov, out, used, hq, hb⟩ := h
  have c1 := hq.c1
  have f1 := hq.fz 1
  go_enter Tryz.func270, Tryz.ntmps270
  go_wp2
  go_end0
  refine ⟨rfl, ⟨ov, out, 0, hq.set1 0, ?_⟩, (Kept.refl _ _ _ _).setCell (by simp) _⟩
  rw [hb.2.1]; exact hb.align
theorem highBits_split (v n : Nat) : ∀ k, k ≤ n → Fo.highBits v n = (Fo.highBits v n).take (n - k) ++ Fo.highBits v k := by
  induction n with
  | zero => intro k hk; obtain rfl : k = 0 := by omega
            simp [Fo.highBits]
  | succ n ih =>
    intro k hk
    by_cases c : k = n + 1
    · subst c; simp
    · rw [show n + 1 - k = (n - k) + 1 by omega, Fo.highBits, List.take_succ_cons, List.cons_append, ← ih k (by omega)]
theorem highBits_length (v n : Nat) : (Fo.highBits v n).length = n := by
  induction n with
  | zero => rfl
  | succ n ih => simp [Fo.highBits, ih]
theorem highBits_step (v n k : Nat) (hk : k + 1 ≤ n) : (Fo.highBits v n).take (n - k) = (Fo.highBits v n).take (n - (k + 1)) ++ [(v / 2 ^ k) % 2 == 1] := by
  have h1 := highBits_split v n k (by omega)
  have h2 := highBits_split v n (k + 1) hk
  have e : Fo.highBits v (k + 1) = [(v / 2 ^ k) % 2 == 1] ++ Fo.highBits v k := by simp only [Fo.highBits, List.cons_append, List.nil_append, Nat.shiftRight_eq_div_pow]
  rw [e, ← List.append_assoc] at h2
  exact List.append_cancel_right (h1.symm.trans h2)
def codeVal (x : Nat × Nat) : Value := .agg #[.int .i64 (x.1 : Nat), .int .i64 (x.2 : Nat)]
set_option maxHeartbeats 1000000 in
theorem wcode_ok (h : Wx B bw T rest w bs) (x : Nat × Nat) (hv : x.1 < 2 ^ 62) (hn : x.2 ≤ 62) (hl : bs.length + x.2 ≤ 1099511627776) :
    Calls Tryz.prog 205 #[.pointer (some ⟨bw, 0, none⟩), codeVal x] w fun e w' => e = .returned (.tuple #[]) ∧ Wx B bw T rest w' (bs ++ Fo.highBits x.1 x.2) ∧ Kept 5 B [bw] w w' := by
  obtain ⟨v, n⟩ := x
  unfold codeVal
  simp only [] at hv hn hl ⊢
  have hbw : B ≤ bw ∧ bw < w.heap.size := by obtain ⟨_, _, _, hq, _⟩ := h; exact ⟨hq.hb, lt_of_block hq.blk⟩
  go_enter Tryz.func205, Tryz.ntmps205
  go_wp2
  go_loopw [4] (fun i wr => ∃ k : Nat, k ≤ n ∧ i = .int .i64 ((k : Int) - 1) ∧ Wx B bw T rest wr (bs ++ (Fo.highBits v n).take (n - k)) ∧ Kept 5 B [bw] (w.alloc (.cells #[.int .i64 v, .int .i64 n] 197)) wr) (fun i _ => (intOf i + 1).toNat)
  case atStart => exact ⟨n, Nat.le_refl _, rfl, by simpa using h.alloc _, Kept.refl _ _ _ _⟩
  case round =>
    obtain ⟨k, hk, rfl, hf, kk⟩ := hrel
    have hbox := kk.block w.heap.size _ (by simp; omega) (blk_new _ _) (Or.inr (by intro c fz e; simp at e))
    by_cases hlt : 0 < k
    · obtain ⟨j, rfl⟩ : ∃ j, k = j + 1 := ⟨k - 1, by omega⟩
      have hb0 : wr.cell? ⟨w.heap.size, 0, none⟩ = some (.int .i64 (v : Nat)) := by rw [cell_blk hbox]; rfl
      have ho := and_shift v j hv
      have hlen : (bs ++ (Fo.highBits v n).take (n - (j + 1))).length ≤ 1099511627776 := by rw [List.length_append, List.length_take, highBits_length]; omega
      have hs := hide (highBits_step v n j hk)
      have ej : ((j + 1 : Nat) : Int) - 1 = j := by omega
      rw [ej]
      clear hv hbox ej
      go_wp2_with fail
      refine (wbit_ok hf hlen _).mono ?_
      rintro e w1 ⟨rfl, hf1, k1⟩
      go_wp2
      go_roundw
      case rel => exact ⟨j, by omega, by go_num, by rw [hs.out, ← List.append_assoc]; exact hf1, kk.trans k1⟩
      case measure => simp [intOf]
    · obtain rfl : k = 0 := by omega
      go_wp2
      go_end0
      refine ⟨rfl, ?_, ((Kept.refl _ _ _ _).alloc _).trans kk⟩
      rwa [Nat.sub_zero, List.take_of_length_le (by rw [highBits_length]; omega)] at hf
end Go.Proofs.YtgkljcmjnphpeaaGreatDoor
namespace Go.Proofs.YtgkljcmjnphpeaaGreatDoor
open Go.RowKit
variable {w : World}
theorem CodeRow.made {w1 : World} {B g N : Nat} (h : w1.ownsRow B 197 2 (.slice (some ⟨g, 0, none⟩) N N) N (madeCells #[.int .i64 0, .int .i64 0] (N * 2)).toList) : CodeRow w1 g (List.replicate N (0, 0)) := by
  rcases h.2 with ⟨h0, _⟩ | ⟨g', cap, cur, hv, _, hh, _, _, hcs, ht⟩
  · cases h0
  cases hv
  have e : cur.toList = (madeCells #[.int .i64 0, .int .i64 0] (N * 2)).toList := by
    rw [← ht, List.take_of_length_le (by rw [Array.length_toList, hcs]; omega)]
  have e' : cur = madeCells #[.int .i64 0, .int .i64 0] (N * 2) := Array.toList_inj.1 e
  refine ⟨cur, hh, by rw [hcs]; simp; omega, fun i hi => ?_⟩
  rw [List.length_replicate] at hi
  have t0 : tnth (List.replicate N (0, 0)) i = (0, 0) := by simp [tnth, hi]
  rw [t0, e', madeCells]
  constructor
  · rw [Array.getElem?_map, Array.getElem?_range, if_pos (by omega)]; simp
  · rw [Array.getElem?_map, Array.getElem?_range, if_pos (by omega)]
    simp [show (i * 2 + 1) % 2 = 1 by omega]
def valAt (cs : List Nat) : Nat → Nat
  | 0 => 0
  | k + 1 => 2 * valAt cs k + nth cs (k + 1)
def tabAt (cs ss : List Nat) (n : Nat) : Nat → List (Nat × Nat)
  | 0 => List.replicate n (0, 0)
  | k + 1 => laid ss (tabAt cs ss n k) (k + 1) (2 * valAt cs k) (psum cs k) (nth cs (k + 1))
theorem laid_length (ss : List Nat) (t : List (Nat × Nat)) (len V P i : Nat) : (laid ss t len V P i).length = t.length := by
  induction i with
  | zero => rfl
  | succ i ih => simp [laid, ih]
theorem tabAt_length (cs ss : List Nat) (n k : Nat) : (tabAt cs ss n k).length = n := by
  induction k with
  | zero => simp [tabAt]
  | succ k ih => rw [tabAt, laid_length, ih]
theorem tabF_at : tabAt Fo.csF Fo.ssF 288 15 = Fo.tabF := by decide +kernel
theorem tadF_at : tabAt Fo.cdF Fo.sdF 32 15 = Fo.tadF := by decide +kernel
theorem Tryz.infoCode : (Tryz.prog.info? 197).map (fun i => (i.zero, i.size, i.bytes)) = some (some (.agg #[.int .i64 0, .int .i64 0]), 2, 16) := by kernel_rfl
theorem info_parts2 {z : Value} {s b : Nat} {t : TypeId} (h : (Tryz.prog.info? t).map (fun i => (i.zero, i.size, i.bytes)) = some (some z, s, b)) : ∃ i, Tryz.prog.info? t = some i ∧ i.zero = some z ∧ i.size = s ∧ i.bytes = b := by
  cases hi : Tryz.prog.info? t with
  | none => rw [hi] at h; simp at h
  | some i => rw [hi] at h; simp at h; exact ⟨i, rfl, h.1, h.2.1, h.2.2⟩
set_option maxRecDepth 100000 in
set_option maxHeartbeats 1000000 in
theorem bySymbol_ok (bc oc n : Nat) (cs ss : List Nat) (hC : Cd w bc oc cs ss) (hn : n ≤ 300) (hsum : psum cs 15 ≤ ss.length) (hss : ss.length ≤ 1000) (hs : ∀ i, i < ss.length → nth ss i < n) (hv : ∀ k, k ≤ 15 → valAt cs k ≤ 100000) :
    Calls Tryz.prog 261 #[.pointer (some ⟨bc, oc, none⟩), .int .i64 n] w fun e w' => e = .returned (.slice (some ⟨w.heap.size, 0, none⟩) n n) ∧ CodeRow w' w.heap.size (tabAt cs ss n 15) ∧ Below w.heap.size w w' := by
  obtain ⟨i0, hi, hz0, hz1, hz2⟩ := info_parts2 Tryz.infoCode
  obtain ⟨h1, g, c, h2, h3⟩ := hC
  have hbc : bc < w.heap.size := World.block_lt_of_cell? w _ h2
  go_enter Tryz.func261, Tryz.ntmps261
  go_wp2_with (at_make; refine wpList_make_full _ rfl _ _ 192 rfl w.heap.size 197 i0 (.agg #[.int .i64 0, .int .i64 0]) 2 Tryz.underlying192 hi hz0 hz1 .i64 .i64 _ _ n rfl rfl (by omega) (by omega) (by rw [hz2]; omega) (by unfold maxLen; omega) (Nat.le_refl _) ?_; intro w1 hown1 hg1; have hrow := CodeRow.made hown1)
  have hbl : Below w.heap.size w w1 := ⟨hg1.os, hg1.tape, hg1.output, hg1.size, fun k hk => hg1.block k hk (by simp)⟩
  clear hown1 hg1 hz0 hz1 hz2 hi
  have H1 := hide h1
  have H3 := hide h3
  have HS := hide hs
  have HV := hide hv
  have HSS := hide (And.intro hsum hss)
  have hgl : g < w.heap.size ∨ ss.length = 0 := by
    rcases Nat.eq_zero_or_pos ss.length with h0 | h0
    · exact Or.inr h0
    · exact Or.inl (World.block_lt_of_cell? w _ (h3 0 h0))
  have HGL := hide hgl
  clear h1 h3 hs hv hsum hss hgl
  go_loopw [6, 7, 8] (fun v pl l wr => ∃ k : Nat, k ≤ 15 ∧ l = .int .i64 (k + 1 : Nat) ∧ v = .int .i64 (valAt cs k : Nat) ∧ pl = .int .i64 (psum cs k : Nat) ∧ CodeRow wr w.heap.size (tabAt cs ss n k) ∧ Below w.heap.size w wr) (fun _ _ l _ => 16 - (intOf l).toNat)
  case atStart => exact ⟨0, by omega, rfl, rfl, rfl, hrow, hbl⟩
  clear hrow hbl
  case round =>
    obtain ⟨k, hk, rfl, rfl, rfl, hrow, hbl⟩ := hrel
    by_cases hlt : k < 15
    · have hcc := (hbl.cell (p := ⟨bc, oc + (k + 1), none⟩) hbc).trans (H1.out (k + 1) (by omega))
      have hv0 := HV.out k hk
      have hv1 := HV.out (k + 1) hlt
      have hpm := psum_mono cs (k + 1) 15 (by omega)
      have hps : psum cs (k + 1) = psum cs k + nth cs (k + 1) := rfl
      have hva : valAt cs (k + 1) = 2 * valAt cs k + nth cs (k + 1) := rfl
      have hl1 := HSS.out
      have HTB : Hid (∀ i, i < nth cs (k + 1) → nth ss (psum cs k + i) < n ∧ psum cs k + i < ss.length ∧ g < w.heap.size) := by
        intro i hi
        have hgl := HGL.out
        exact ⟨HS.out _ (by omega), by omega, by omega⟩
      have hN : nth cs (k + 1) ≤ 1000 := by omega
      have hP : psum cs k ≤ 1000 := by omega
      have HPS := hide hps
      have HVA := hide hva
      have HT : Hid (tabAt cs ss n (k + 1) = laid ss (tabAt cs ss n k) (k + 1) (2 * valAt cs k) (psum cs k) (nth cs (k + 1))) := rfl
      clear hps hva hpm hv1 hl1
      generalize hNN : nth cs (k + 1) = N at *
      generalize hPP : psum cs k = P at *
      generalize hVV : valAt cs k = V at *
      generalize hTT : tabAt cs ss n k = tb at *
      have htb : tb.length = n := by rw [← hTT, tabAt_length]
      clear hNN hPP hVV hTT
      go_wp2
      go_loopw [6, 7, 23] (fun v pl i wr => ∃ j : Nat, j ≤ N ∧ i = .int .i64 (j : Nat) ∧ v = .int .i64 (2 * V + j : Nat) ∧ pl = .int .i64 (P + j : Nat) ∧ CodeRow wr w.heap.size (laid ss tb (k + 1) (2 * V) P j) ∧ Below w.heap.size w wr) (fun _ _ i _ => N - (intOf i).toNat)
      case atStart => exact ⟨0, by omega, rfl, by go_num, by go_num, hrow, hbl⟩
      clear hrow hbl hcc
      case round =>
        obtain ⟨j, hj, rfl, rfl, rfl, hrow, hbl⟩ := hrel
        by_cases hjl : j < N
        · obtain ⟨t1, t2, t3⟩ := HTB.out j hjl
          have d2 := (hbl.cell (p := ⟨bc, oc + 16, none⟩) hbc).trans h2
          have d3 := (hbl.cell (p := ⟨g, P + j, none⟩) t3).trans (H3.out (P + j) t2)
          obtain ⟨hth0, f4⟩ := hrow.there (nth ss (P + j)) (by rw [laid_length, htb]; exact t1) 0 (by omega)
          obtain ⟨hth1, f5⟩ := hrow.there (nth ss (P + j)) (by rw [laid_length, htb]; exact t1) 1 (by omega)
          obtain ⟨u4, d4⟩ := Option.isSome_iff_exists.1 hth0
          obtain ⟨u5, d5⟩ := Option.isSome_iff_exists.1 hth1
          simp only [Nat.add_zero] at d4 f4
          clear hth0 hth1
          have hst := hide (hrow.set (nth ss (P + j)) (2 * V + j, k + 1))
          have HL : Hid (laid ss tb (k + 1) (2 * V) P (j + 1) = (laid ss tb (k + 1) (2 * V) P j).set (nth ss (P + j)) (2 * V + j, k + 1)) := rfl
          clear hrow
          generalize hSS : nth ss (P + j) = S at *
          clear hSS
          have hb2 := hide ((hbl.setCell (p := ⟨w.heap.size, S * 2, none⟩) (Nat.le_refl _) (.int .i64 (2 * V + j : Nat))).setCell (p := ⟨w.heap.size, S * 2 + 1, none⟩) (Nat.le_refl _) (.int .i64 (k + 1 : Nat)))
          go_wp2
          go_roundw
          case rel => exact ⟨j + 1, by omega, by go_num, by go_num, by go_num, by rw [HL.out]; exact hst.out, hb2.out⟩
          case measure => simp [intOf]; omega
        · obtain rfl : j = N := by omega
          go_wp2
          go_roundw
          case rel => exact ⟨k + 1, by omega, by go_num, by rw [HVA.out], by rw [HPS.out], by rw [HT.out]; exact hrow, hbl⟩
          case measure => simp [intOf]; omega
    · obtain rfl : k = 15 := by omega
      go_wp2
      go_ret
      exact ⟨rfl, hrow, hbl⟩
end Go.Proofs.YtgkljcmjnphpeaaGreatDoor
namespace Go.Proofs.YtgkljcmjnphpeaaGreatDoor
open Go.RowKit
end Go.Proofs.YtgkljcmjnphpeaaGreatDoor
namespace Go.Proofs.YtgkljcmjnphpeaaGreatDoor
open Go.RowKit
variable {w : World}
theorem Stood.look {bm at_ : Nat} {data : List Nat} (h : Stood w bm data at_) (hb : ∀ i, i < data.length → nth data i < 256) (q : Nat) (hq : q + 3 ≤ data.length) :
    ∃ (p : Nat) (ok : Bool), (Instr.lookup 191 (.map (some bm)) (key3 (nth data q) (nth data (q + 1)) (nth data (q + 2))) true).run Tryz.prog w = .ok (.tuple #[.int .i64 (p : Int), .bool ok]) w ∧
      (ok = true → p < at_ ∧ p + 3 ≤ data.length ∧ nth data p = nth data q ∧ nth data (p + 1) = nth data (q + 1) ∧ nth data (p + 2) = nth data (q + 2)) ∧
      (Alike data → 0 < at_ → at_ + 3 ≤ data.length → ok = true ∧ p + 1 = at_) := by
  obtain ⟨es, clock, h1, h2, h5⟩ := h
  have hu : (underlying 191).run Tryz.prog w = .ok (.map 281 3) w := by kernel_rfl
  have hz : (zeroValue 3).run Tryz.prog w = .ok (.int .i64 0) w := by kernel_rfl
  rcases run_find3 (nth data q) (nth data (q + 1)) (nth data (q + 2)) (hb _ (by omega)) (hb _ (by omega)) (hb _ (by omega)) w es.toList (Stood.keys hb h2) with hf | ⟨j, e, hf, he, hk⟩
  · refine ⟨0, false, ?_, by simp, fun ha h0 hl => ?_⟩
    · simp [Instr.lookup, hu, MapKept.run_getObj_map h1, run_check3, hf.1, hz, Result.andThen]
    · obtain ⟨e, he, hv⟩ := (h5 ha).2 (at_ - 1) (by omega) (by omega)
      obtain ⟨p, p1, p2, p3, p4⟩ := h2 e (by rw [he]; simp)
      refine absurd ?_ (hf.2 e (by rw [he]; simp))
      rw [p4, ha p (by omega), ha (p + 1) (by omega), ha (p + 2) (by omega), ha q (by omega), ha (q + 1) (by omega), ha (q + 2) (by omega)]
  · obtain ⟨p, p1, p2, p3, p4⟩ := h2 e (List.mem_of_getElem? he)
    obtain ⟨k1, k2, k3⟩ := key3_inj (p4.symm.trans hk)
    refine ⟨p, true, ?_, fun _ => ⟨p2, p3, k1, k2, k3⟩, fun ha h0 hl => ⟨rfl, ?_⟩⟩
    · simp [Instr.lookup, hu, MapKept.run_getObj_map h1, run_check3, hf, p1, Result.andThen]
    · obtain ⟨e', he', hv⟩ := (h5 ha).2 (at_ - 1) (by omega) (by omega)
      have hm := List.mem_of_getElem? he
      rw [he', List.mem_singleton] at hm
      subst hm
      rw [p1] at hv
      simp at hv
      omega
variable {B bw bm g1 g2 cap T : Nat} {data : List Nat} {ao : Option Addr} {bs : List Bool} {at_ : Nat} {rest : List Value}
theorem hasKey_ok (h : De B bw bm g1 g2 cap data ao w bs at_) :
    Calls Tryz.prog 311 #[.pointer (some ⟨bw, 0, none⟩)] w fun e w' => e = .returned (.bool (decide (at_ + 3 ≤ data.length))) ∧ ∃ q, w' = w.drewN q := by
  obtain ⟨c2, c3, _⟩ := h.cells
  have b1 := h.len
  have b2 := h.hat
  have hd : decide ((3 : Int) ≤ (data.length : Int) - at_) = decide (at_ + 3 ≤ data.length) := by rw [decide_eq_decide]; omega
  have HD := hide hd
  clear hd
  go_enter Tryz.func311, Tryz.ntmps311
  go_wp2_with fail
  go_quiet (fail)
  go_wp2
  go_ret
  exact ⟨by show Ending.returned (Value.bool (decide (3 ≤ (data.length : Int) - at_))) = _; rw [HD.out], nq, rfl⟩
theorem run_arrayAt3 (b o n c : Nat) (hn : 3 ≤ n) (W : World) : (Instr.arrayAt 281 (.slice (some ⟨b, o, none⟩) n c)).run Tryz.prog W = .ok (.pointer (some ⟨b, o, none⟩)) W := by
  have hu : (underlying 281).run Tryz.prog W = .ok (.array 3 5) W := by kernel_rfl
  simp [Instr.arrayAt, hu, Result.andThen, show ¬ n < 3 by omega]
set_option maxRecDepth 100000 in
set_option maxHeartbeats 1000000 in
theorem key_ok (h : De B bw bm g1 g2 cap data ao w bs at_) (hk : at_ + 3 ≤ data.length) :
    Calls Tryz.prog 312 #[.pointer (some ⟨bw, 0, none⟩)] w fun e w' => e = .returned (key3 (nth data at_) (nth data (at_ + 1)) (nth data (at_ + 2))) ∧ Below w.heap.size w w' := by
  obtain ⟨c2, c3, _, _, _, hbw, hlt, _⟩ := h.cells
  obtain ⟨b, o, rfl, hb, hc⟩ := h.dat.at (by omega)
  have b1 := h.len
  obtain ⟨b2, b3⟩ := h.lc
  have d0 : w.cell? ⟨b, o + at_, none⟩ = some (.int .u8 (nth data at_ : Nat)) := hc at_ (by omega)
  have d1 : w.cell? ⟨b, o + at_ + 1, none⟩ = some (.int .u8 (nth data (at_ + 1) : Nat)) := hc (at_ + 1) (by omega)
  have d2 : w.cell? ⟨b, o + at_ + 2, none⟩ = some (.int .u8 (nth data (at_ + 2) : Nat)) := hc (at_ + 2) (by omega)
  have haa := run_arrayAt3 b (o + at_) (data.length - at_) (cap - at_) (by omega)
  have hbl : b < w.heap.size := by omega
  clear hc h
  go_enter Tryz.func312, Tryz.ntmps312
  go_wp2_with fail
  generalize hW : w.alloc _ = w2
  have hbw2 : Below w.heap.size w w2 := by rw [← hW]; exact (Below.refl _ _).alloc (Nat.le_refl _) _
  have hblk : w2.heap[w.heap.size]? = some (.cells #[.int .u8 0, .int .u8 0, .int .u8 0] 281 (0, 0)) := by rw [← hW]; exact blk_new _ _
  have c2' := (hbw2.cell (p := ⟨bw, 2, none⟩) hlt).trans c2
  have c3' := (hbw2.cell (p := ⟨bw, 3, none⟩) hlt).trans c3
  have d0' := (hbw2.cell (p := ⟨b, o + at_, none⟩) hbl).trans d0
  have d1' := (hbw2.cell (p := ⟨b, o + at_ + 1, none⟩) hbl).trans d1
  have d2' := (hbw2.cell (p := ⟨b, o + at_ + 2, none⟩) hbl).trans d2
  have n0 : w2.cell? ⟨w.heap.size, 0, none⟩ = some (.int .u8 0) := by rw [cell_blk hblk]; rfl
  have n1 : w2.cell? ⟨w.heap.size, 1, none⟩ = some (.int .u8 0) := by rw [cell_blk hblk]; rfl
  have n2 : w2.cell? ⟨w.heap.size, 2, none⟩ = some (.int .u8 0) := by rw [cell_blk hblk]; rfl
  have f0 : w2.frozen? ⟨w.heap.size, 0, none⟩ = false := free_blk hblk
  have f1 : w2.frozen? ⟨w.heap.size, 1, none⟩ = false := free_blk hblk
  have f2 : w2.frozen? ⟨w.heap.size, 2, none⟩ = false := free_blk hblk
  generalize hS : w.heap.size = S at *
  have HB2 := hide hbw2
  have HBK := hide hblk
  clear c2 c3 d0 d1 d2 hW hbw2 hblk
  have hfin : Hid ((((w2.setCell ⟨S, 0, none⟩ (.int .u8 (nth data at_ : Nat))).setCell ⟨S, 1, none⟩ (.int .u8 (nth data (at_ + 1) : Nat))).setCell ⟨S, 2, none⟩ (.int .u8 (nth data (at_ + 2) : Nat))).drew.heap[S]? = some (.cells #[.int .u8 (nth data at_ : Nat), .int .u8 (nth data (at_ + 1) : Nat), .int .u8 (nth data (at_ + 2) : Nat)] 281 (0, 0))) := by
    unfold Hid
    exact blk_setCell _ (blk_setCell _ (blk_setCell _ HBK.out))
  go_region
  all_goals go_wp2
  refine bodyPost_ret (v := key3 (nth data at_) (nth data (at_ + 1)) (nth data (at_ + 2))) ?_ rfl ⟨rfl, ?_⟩
  · exact results_cell_row Tryz.results312 _ _ S 281 _ _ _ rfl hfin.out Tryz.underlying281 rfl (by kernel_rfl)
  · subst hS
    exact (((HB2.out.setCell (p := ⟨w.heap.size, 0, none⟩) (Nat.le_refl _) _).setCell (p := ⟨w.heap.size, 1, none⟩) (Nat.le_refl _) _).setCell (p := ⟨w.heap.size, 2, none⟩) (Nat.le_refl _) _).drew
end Go.Proofs.YtgkljcmjnphpeaaGreatDoor
namespace Go.Proofs.YtgkljcmjnphpeaaGreatDoor
open Go.RowKit
variable {w : World} {B bw bm g1 g2 cap T : Nat} {data : List Nat} {ao : Option Addr} {bs : List Bool} {at_ : Nat} {rest : List Value}
def MatchOk (data : List Nat) (at_ l d : Nat) : Prop := (Alike data → 0 < at_ → at_ + 3 ≤ data.length → l = min 258 (data.length - at_) ∧ d = 1) ∧ (l = 0 ∨ 3 ≤ l ∧ l ≤ 258 ∧ 1 ≤ d ∧ d ≤ 32768 ∧ d ≤ at_ ∧ at_ + l ≤ data.length ∧ ∀ i, i < l → nth data (at_ + i) = nth data (at_ - d + i))
theorem hasKey_is (h : De B bw bm g1 g2 cap data ao w bs at_) (v : Bool) (hv : decide (at_ + 3 ≤ data.length) = v) :
    Calls Tryz.prog 311 #[.pointer (some ⟨bw, 0, none⟩)] w fun e w' => e = .returned (.bool v) ∧ ∃ q, w' = w.drewN q := by
  subst hv; exact hasKey_ok h
set_option maxRecDepth 100000 in
set_option maxHeartbeats 2000000 in
theorem match_ok (h : De B bw bm g1 g2 cap data ao w bs at_) :
    Calls Tryz.prog 263 #[.pointer (some ⟨bw, 0, none⟩)] w fun e w' => ∃ l d : Nat, e = .returned (.tuple #[.int .i64 l, .int .i64 d]) ∧ Below w.heap.size w w' ∧ MatchOk data at_ l d := by
  by_cases hk : at_ + 3 ≤ data.length
  · have H := hide h
    clear h
    go_enter Tryz.func263, Tryz.ntmps263
    go_wp2_with (go_at_call 311; refine (hasKey_is H.out true (decide_eq_true hk)).mono ?_; rintro e w1 ⟨rfl, q, rfl⟩)
    have hq : Below w.heap.size w (w.drewN q) := ⟨rfl, rfl, rfl, Nat.le_refl _, fun _ _ => rfl⟩
    have H1 := hide (H.out.below hq)
    generalize hwq : w.drewN q = w1 at *
    clear hwq
    obtain ⟨c2, c3, c4, _, _, hbw, hlt, _⟩ := H1.out.cells
    have HD : Hid (De B bw bm g1 g2 cap data ao w1.drew bs at_) := H1.out.below (Below.refl _ _).drew
    go_region_with (go_at_call 312; refine (key_ok HD.out hk).mono ?_; rintro e w2 ⟨rfl, b2⟩; have H2 := hide (HD.out.below b2); have hc4 := H2.out.cells.2.2.1; obtain ⟨p, ok, hlk, hp, ha⟩ := H2.out.st.look H2.out.byt at_ hk; have HP := hide hp; have HA := hide ha; clear hp ha)
    all_goals clear hc4 hlk c2 c3 c4 HD H1
    all_goals have B2 : Hid (Below w.heap.size w w2) := (hq.trans (Below.refl _ _).drew).trans (b2.mono hq.size)
    all_goals clear hq b2
    all_goals obtain ⟨c2, c3, _, _, _, hbw, hlt, _⟩ := H2.out.cells
    all_goals obtain ⟨b, o, rfl, hb, hdc⟩ := H2.out.dat.at (by omega)
    all_goals have hlen := H2.out.len
    all_goals have HDC := hide hdc
    all_goals clear hdc
    all_goals (
      cases ok
      · clear HP
        go_wp2
        refine bodyPost_ret (v := .tuple #[.int .i64 0, .int .i64 0]) (by simp [results, Tryz.results263, go_sem]) rfl ⟨0, 0, rfl, B2.out, fun x1 x2 x3 => absurd (HA.out x1 x2 x3).1 (by simp), Or.inl rfl⟩
      · obtain ⟨p1, p2, e0, e1, e2⟩ := HP.out rfl
        have HE := hide (And.intro e0 (And.intro e1 e2))
        clear e0 e1 e2 HP
        by_cases hf : 32768 < at_ - p
        · have hf' : (32768 : Int) < (at_ : Int) - p := by omega
          clear hf
          go_wp2
          refine bodyPost_ret (v := .tuple #[.int .i64 0, .int .i64 0]) (by simp [results, Tryz.results263, go_sem]) rfl ⟨0, 0, rfl, B2.out, fun x1 x2 x3 => absurd (HA.out x1 x2 x3).2 (by omega), Or.inl rfl⟩
        · have hf' : ¬ (32768 : Int) < (at_ : Int) - p := by omega
          go_wp2_with fail
          clear c2 c3
          go_loopw [2] (fun l wr => ∃ k : Nat, 3 ≤ k ∧ k ≤ 258 ∧ l = .int .i64 k ∧ at_ + k ≤ data.length ∧ Hid (∀ i, i < k → nth data (at_ + i) = nth data (p + i)) ∧ Below w2.heap.size w2 wr) (fun l _ => 258 - (intOf l).toNat)
          case atStart =>
            refine ⟨3, by omega, by omega, rfl, hk, ?_, Below.refl _ _⟩
            intro i hi
            obtain ⟨e0, e1, e2⟩ := HE.out
            match i, hi with
            | 0, _ => exact e0.symm
            | 1, _ => exact e1.symm
            | 2, _ => exact e2.symm
          case round =>
            obtain ⟨k, hk3, hk258, rfl, hal, HM, bl⟩ := hrel
            have H3 := hide (H2.out.below bl)
            have c2 := H3.out.cells.1
            have c3 := H3.out.cells.2.1
            have hkI : (k : Int) ≤ 258 := by omega
            have hFin : Hid ((Alike data → k = min 258 (data.length - at_)) → Below w.heap.size w wr ∧ MatchOk data at_ k (at_ - p)) := by
              intro hmin
              refine ⟨B2.out.trans (bl.mono B2.out.size), fun x1 x2 x3 => ⟨hmin x1, by have := (HA.out x1 x2 x3).2; omega⟩, Or.inr ⟨hk3, hk258, by omega, by omega, by omega, hal, fun i hi => ?_⟩⟩
              rw [show at_ - (at_ - p) + i = p + i by omega]
              exact HM.out i hi
            by_cases t1 : k < 258
            · have t1' : decide ((k : Int) < 258) = true := by simp; omega
              by_cases t2 : at_ + k < data.length
              · have t2' : decide ((at_ : Int) + k < data.length) = true := by simp; omega
                have d1 := (bl.cell (p := ⟨b, o + (at_ + k), none⟩) (by show b < _; omega)).trans (HDC.out (at_ + k) t2)
                have d2 := (bl.cell (p := ⟨b, o + (p + k), none⟩) (by show b < _; omega)).trans (HDC.out (p + k) (by omega))
                have hb2 := H2.out.lc
                by_cases t3 : nth data (at_ + k) = nth data (p + k)
                · have HT : Hid (∀ i, i < k + 1 → nth data (at_ + i) = nth data (p + i)) := by
                    intro i hi
                    by_cases c : i = k
                    · subst c; exact t3
                    · exact HM.out i (by omega)
                  have t3' : ((nth data (at_ + k) : Int) == (nth data (p + k) : Int)) = true := by simp [t3]
                  generalize nth data (at_ + k) = X at d1 t3'
                  generalize nth data (p + k) = Y at d2 t3'
                  clear t3
                  go_wp2_with fail
                  go_quiet (fail)
                  go_wp2
                  go_roundw
                  case rel => exact ⟨k + 1, by omega, by omega, by go_num, by omega, HT, below_drewN bl _⟩
                  case measure => simp [intOf]; omega
                · have t3' : ((nth data (at_ + k) : Int) == (nth data (p + k) : Int)) = false := by simp; omega
                  have HN : Hid (Alike data → k = min 258 (data.length - at_)) := fun x => absurd ((x (at_ + k) t2).trans (x (p + k) (by omega)).symm) t3
                  generalize nth data (at_ + k) = X at d1 t3'
                  generalize nth data (p + k) = Y at d2 t3'
                  clear t3
                  go_wp2_with fail
                  go_quiet (fail)
                  go_wp2_with fail
                  go_quiet (fail)
                  go_wp2
                  rw [show (at_ : Int) - p = ((at_ - p : Nat) : Int) by omega]
                  refine bodyPost_ret (v := .tuple #[.int .i64 k, .int .i64 (at_ - p : Nat)]) (by simp [results, Tryz.results263, go_sem]) rfl ⟨k, at_ - p, rfl, below_drewN (below_drewN (hFin.out HN.out).1 _) _, (hFin.out HN.out).2⟩
              · have t2' : decide ((at_ : Int) + k < data.length) = false := by simp; omega
                have HN : Hid (Alike data → k = min 258 (data.length - at_)) := fun _ => by omega
                go_wp2_with fail
                go_quiet (fail)
                go_wp2_with fail
                go_quiet (fail)
                go_wp2
                rw [show (at_ : Int) - p = ((at_ - p : Nat) : Int) by omega]
                refine bodyPost_ret (v := .tuple #[.int .i64 k, .int .i64 (at_ - p : Nat)]) (by simp [results, Tryz.results263, go_sem]) rfl ⟨k, at_ - p, rfl, below_drewN (below_drewN (hFin.out HN.out).1 _) _, (hFin.out HN.out).2⟩
            · have t1' : decide ((k : Int) < 258) = false := by simp; omega
              have HN : Hid (Alike data → k = min 258 (data.length - at_)) := fun _ => by omega
              go_wp2_with fail
              go_quiet (fail)
              go_wp2_with fail
              go_quiet (fail)
              go_wp2
              rw [show (at_ : Int) - p = ((at_ - p : Nat) : Int) by omega]
              refine bodyPost_ret (v := .tuple #[.int .i64 k, .int .i64 (at_ - p : Nat)]) (by simp [results, Tryz.results263, go_sem]) rfl ⟨k, at_ - p, rfl, below_drewN (below_drewN (hFin.out HN.out).1 _) _, (hFin.out HN.out).2⟩)
  · have H := hide h
    clear h
    go_enter Tryz.func263, Tryz.ntmps263
    go_wp2_with (go_at_call 311; refine (hasKey_is H.out false (decide_eq_false hk)).mono ?_; rintro e w1 ⟨rfl, q, rfl⟩)
    refine bodyPost_ret (v := .tuple #[.int .i64 0, .int .i64 0]) (by simp [results, Tryz.results263, go_sem]) rfl ⟨0, 0, rfl, ⟨rfl, rfl, rfl, Nat.le_refl _, fun _ _ => rfl⟩, fun _ _ x3 => absurd x3 hk, Or.inl rfl⟩
end Go.Proofs.YtgkljcmjnphpeaaGreatDoor
namespace Go.Proofs.YtgkljcmjnphpeaaGreatDoor
open Go.RowKit
variable {w w' : World} {B bw bm g1 g2 cap T : Nat} {data : List Nat} {ao : Option Addr} {bs : List Bool} {at_ : Nat} {rest : List Value}
theorem Kept.thenBelow {e B : Nat} {S : List Nat} {a b c : World} (h : Kept e B S a b) (k : Below b.heap.size b c) : Kept e B S a c :=
  h.trans ⟨k.os, k.tape, k.output, k.size, fun i o _ ho _ => by rw [k.block i (lt_of_block ho)]; exact ho⟩
set_option maxRecDepth 100000 in
set_option maxHeartbeats 2000000 in
theorem step_ok (n : Nat) (h : De B bw bm g1 g2 cap data ao w bs at_) (hn : at_ + n ≤ data.length) :
    Calls Tryz.prog 264 #[.pointer (some ⟨bw, 0, none⟩), .int .i64 n] w fun e w' => e = .returned (.tuple #[]) ∧ De B bw bm g1 g2 cap data ao w' bs (at_ + n) ∧ Kept 5 B [bw, bm] w w' := by
  have hlen := h.len
  go_enter Tryz.func264, Tryz.ntmps264
  go_wp2
  go_loopw [5] (fun i wr => ∃ k : Nat, k ≤ n ∧ i = .int .i64 k ∧ De B bw bm g1 g2 cap data ao wr bs (at_ + k) ∧ Kept 5 B [bw, bm] w wr) (fun i _ => n - (intOf i).toNat)
  case atStart => exact ⟨0, Nat.zero_le _, rfl, h, Kept.refl _ _ _ _⟩
  clear h
  case round =>
    obtain ⟨k, hk, rfl, hf, kk⟩ := hrel
    have H := hide hf
    clear hf
    by_cases hlt : k < n
    · have HA : Hid (∀ a, at_ + k = a → at_ + (k + 1) = a + 1) := fun a ha => by omega
      generalize ha : at_ + k = a at *
      have HA2 := hide (HA.out a rfl)
      have hal : a < data.length := by omega
      clear HA
      by_cases hk3 : a + 3 ≤ data.length
      · clear ha
        go_wp2_with (go_at_call 311; refine (hasKey_is H.out true (decide_eq_true hk3)).mono ?_; rintro e w1 ⟨rfl, q, rfl⟩)
        have H1 := hide (H.out.drewN q)
        have K1 := hide (kk.drewN q)
        generalize hwq : wr.drewN q = w1 at *
        clear hwq kk H
        obtain ⟨c2, c3, c4, _, _, hbw, hlt', _⟩ := H1.out.cells
        have HD : Hid (De B bw bm g1 g2 cap data ao w1.drew bs a) := hide (H1.out.below (Below.refl _ _).drew)
        go_region_with (go_at_call 312; refine (key_ok HD.out hk3).mono ?_; rintro e w2 ⟨rfl, b2⟩; have H2 := hide (HD.out.below b2); have hc3 := H2.out.cells.2.1; have hc4 := H2.out.cells.2.2.1; obtain ⟨w3, hup, d3, f3, hde, hkp⟩ := H2.out.upd hk3; have HE := hide hde; have HKP := hide hkp; clear hde hkp)
        all_goals (clear hup hc3 hc4 c2 c3 c4 HD H1 H2; have B2 := hide b2; clear b2; go_wp2)
        all_goals (
          go_roundw
          case rel => exact ⟨k + 1, by omega, by go_num, by rw [HA2.out]; exact HE.out, (Kept.thenBelow (Kept.thenBelow K1.out (Below.refl _ _).drew) B2.out).trans HKP.out⟩
          case measure => simp [intOf]; omega)
      · clear ha
        go_wp2_with (go_at_call 311; refine (hasKey_is H.out false (decide_eq_false hk3)).mono ?_; rintro e w1 ⟨rfl, q, rfl⟩; have H1 := hide (H.out.drewN q); have K1 := hide (kk.drewN q); generalize hwq : wr.drewN q = w1 at *; clear hwq kk H; obtain ⟨_, c3, _, _, _, _, _, f3⟩ := H1.out.cells)
        have HG := hide (H1.out.go hal hk3)
        go_roundw
        case rel => exact ⟨k + 1, by omega, by go_num, by rw [HA2.out]; exact HG.out.1, K1.out.trans HG.out.2⟩
        case measure => simp [intOf]; omega
    · obtain rfl : k = n := by omega
      go_wp2
      go_end0
      exact ⟨rfl, H.out, kk⟩
end Go.Proofs.YtgkljcmjnphpeaaGreatDoor
