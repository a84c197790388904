/- What symbols stand for: lengthSpan, distanceSpan, lengthSymbol, distanceSymbol; within. -/
import Derived.Test.YtgkljcmjnphpeaaDoorBitR
set_option linter.unusedVariables false
set_option linter.unusedSimpArgs false
namespace Go.Proofs.YtgkljcmjnphpeaaDoor
open Go.RowKit
variable {B br bf bd off cap : Nat} {d : List Nat} {most : Nat} {fixed : List Value} {w : World} {p held left window : Nat} {ov : Value} {out : List Nat}

/-- Codes in memory: how many there are of each length; the symbols in the order of their codes. -/
def Cd (w : World) (bc oc : Nat) (cs ss : List Nat) : Prop :=
  (∀ i, i < 16 → w.cell? ⟨bc, oc + i, none⟩ = some (.int .i64 (nth cs i : Nat))) ∧
  ∃ g c, w.cell? ⟨bc, oc + 16, none⟩ = some (.slice (some ⟨g, 0, none⟩) ss.length c) ∧ ∀ i, i < ss.length → w.cell? ⟨g, i, none⟩ = some (.int .i64 (nth ss i : Nat))

def psum (cs : List Nat) : Nat → Nat
  | 0 => 0
  | k + 1 => psum cs k + nth cs (k + 1)
theorem psum_mono (cs : List Nat) (a b : Nat) (h : a ≤ b) : psum cs a ≤ psum cs b := by
  induction b with
  | zero => have : a = 0 := by omega
            rw [this]; exact Nat.le_refl _
  | succ b ih =>
    rcases Nat.lt_or_ge a (b + 1) with h1 | h1
    · have := ih (by omega); simp only [psum]; omega
    · have : a = b + 1 := by omega
      rw [this]; exact Nat.le_refl _

theorem or_low1 (x : Nat) (b : Bool) (hx : x < 2 ^ 60) : bits .or .i64 ((x : Int) * 2) (b.toNat : Nat) = ((2 * x + b.toNat : Nat) : Int) := by
  have hb : b.toNat ≤ 1 := by cases b <;> decide
  have e : ((x : Int) * 2) = ((2 * x : Nat) : Int) := by omega
  rw [e, i64_or_nat _ _ (by omega) (by omega)]
  have := or_low b.toNat x 1 (by omega)
  rw [Nat.or_comm, show 2 * x = x * 2 ^ 1 by omega, this]
  omega

set_option maxHeartbeats 1000000 in
theorem symbol_ok (bc oc : Nat) (cs ss : List Nat) (hsum : psum cs 15 ≤ ss.length) (hss : ss.length ≤ 1000) {s : Nat} {rest rest' : List Bool}
    (hC : ∀ w' r, Fl B br bf bd off cap d most fixed w' r window ov out → Kept 5 B [br, bf] w w' → Cd w' bc oc cs ss)
    (hs : Fo.sym cs ss rest = some (s, rest')) (h : Fl B br bf bd off cap d most fixed w rest window ov out) :
    Calls Tryd.prog 83 #[.pointer (some ⟨bf, 0, none⟩), .pointer (some ⟨bc, oc, none⟩)] w fun e w' => e = .returned (.int .i64 s) ∧ Fl B br bf bd off cap d most fixed w' rest' window ov out ∧ Kept 5 B [br, bf] w w' := by
  go_enter Tryd.func83, Tryd.ntmps83
  go_wp2
  go_loopw [5, 6, 7, 8] (fun c f pl l wr => ∃ (k code first : Nat) (r : List Bool), k ≤ 15 ∧ l = .int .i64 (k + 1 : Nat) ∧ c = .int .i64 code ∧ f = .int .i64 first ∧ pl = .int .i64 (psum cs k) ∧ first ≤ code ∧ code < 2 ^ k ∧ Hid (Fo.symGo cs ss (15 - k) (k + 1) code first (psum cs k) r = some (s, rest')) ∧ Fl B br bf bd off cap d most fixed wr r window ov out ∧ Kept 5 B [br, bf] w wr) (fun _ _ _ l _ => 16 - (intOf l).toNat)
  case atStart => exact ⟨0, 0, 0, rest, by omega, rfl, rfl, rfl, rfl, by omega, by omega, hs, h, Kept.refl _ _ _ _⟩
  case round =>
    obtain ⟨k, code, first, r, hk, rfl, rfl, rfl, rfl, hfc, hc2, hg, hf, kk⟩ := hrel
    by_cases hlt : k < 15
    · obtain ⟨m, hm⟩ : ∃ m, 15 - k = m + 1 := ⟨14 - k, by omega⟩
      cases r with
      | nil => have hg2 := hg.out; rw [hm] at hg2; simp [Fo.symGo] at hg2
      | cons b r =>
        have hp15 := psum_mono cs (k + 1) 15 (by omega)
        have hpk : psum cs (k + 1) = psum cs k + nth cs (k + 1) := rfl
        have ht : 2 ^ k ≤ 2 ^ 14 := Nat.pow_le_pow_right (by omega) (by omega)
        have hb : b.toNat ≤ 1 := by cases b <;> decide
        have ho := or_low1 code b (by omega)
        have hpw : 2 ^ (k + 1) = 2 * 2 ^ k := by rw [Nat.pow_succ]; omega
        generalize hN : nth cs (k + 1) = N at *
        have HN := hide hN
        clear hN
        generalize hPK : psum cs k = P at *
        generalize hPK1 : psum cs (k + 1) = P1 at *
        have HPK1 := hide hPK1
        clear hPK hPK1
        go_wp2_with fail
        refine (bit_ok hf).mono ?_
        rintro e w1 ⟨rfl, hf1, k1⟩
        obtain ⟨hcs, g, c, hg1, hss1⟩ := hC w1 r hf1 (kk.trans k1)
        have hcc := hcs (k + 1) (by omega)
        rw [HN.out] at hcc
        clear hcs
        have hg2 := hg.out
        rw [hm] at hg2
        simp only [Fo.symGo] at hg2
        rw [show cs.getD (k + 1) 0 = N from HN.out] at hg2
        by_cases hlt2 : 2 * code + b.toNat < 2 * first + N
        · rw [if_pos hlt2] at hg2
          simp only [Option.some.injEq, Prod.mk.injEq] at hg2
          obtain ⟨hs1, rfl⟩ := hg2
          have hld := hss1 (P + (2 * code + b.toNat) - first * 2) (by omega)
          rw [show nth ss (P + (2 * code + b.toNat) - first * 2) = s by rw [← hs1, nth, Nat.mul_comm first 2]] at hld
          clear hs1 hss1 hg hs
          go_wp2
          go_ret
          exact ⟨rfl, hf1, kk.trans k1⟩
        · rw [if_neg hlt2] at hg2
          have HG : Hid (Fo.symGo cs ss (15 - (k + 1)) (k + 1 + 1) (2 * code + b.toNat) (2 * first + N) P1 r = some (s, rest')) := by
            rw [hpk, show 15 - (k + 1) = m by omega]; exact hg2
          have HP := hide hpk
          have hpn : P + N ≤ 1000 := by omega
          clear hg2 hss1 hg hs hpk
          go_wp2
          go_roundw
          case rel =>
            refine ⟨k + 1, 2 * code + b.toNat, 2 * first + N, r, by omega, by go_num, by go_num, by go_num, ?_, by omega, by omega, ?_, hf1, kk.trans k1⟩
            · rw [HPK1.out]; have := HP.out; subst this; go_num
            · rw [HPK1.out]; exact HG
          case measure => simp [intOf]; omega
    · have hg2 := hg.out
      rw [show 15 - k = 0 by omega] at hg2
      simp [Fo.symGo] at hg2
end Go.Proofs.YtgkljcmjnphpeaaDoor
namespace Go.Proofs.YtgkljcmjnphpeaaDoor
open Go.RowKit
variable {B br bf bd off cap : Nat} {d : List Nat} {most : Nat} {fixed : List Value} {w : World} {p held left window : Nat} {ov : Value} {out : List Nat}

theorem ret_int {k : IntKind} {a b : Int} (h : a = b) : Ending.returned (.int k a) = .returned (.int k b) := by rw [h]

def spanVal (x : Nat × Nat) : Value := .agg #[.int .i64 (x.1 : Nat), .int .i64 (x.2 : Nat)]

theorem len_val : ∀ s : Fin 286, 265 ≤ s.val → s.val ≠ 285 → wrap64 (3 + wrap64 ((4 + ((s.val : Int) - 257) % 4) * 2 ^ ((s.val - 257) / 4 - 1))) = ((Fo.lenSpan s.val).1 : Nat) ∧ ((s.val : Int) - 257) / 4 - 1 = ((Fo.lenSpan s.val).2 : Nat) := by decide +kernel

theorem lengthSpan_ok (s : Nat) (h1 : 257 ≤ s) (h2 : s ≤ 285) (w : World) : Calls Tryd.prog 69 #[.int .i64 s] w fun e w' => e = .returned (spanVal (Fo.lenSpan s)) ∧ ∃ o, w' = w.alloc o := by
  by_cases c1 : s = 285
  · subst c1
    go_enter Tryd.func69, Tryd.ntmps69
    go_wp2
    refine bodyPost_ret (v := spanVal (Fo.lenSpan 285)) (by simp [results, Tryd.results69, go_sem, spanVal, Fo.lenSpan]) rfl ⟨rfl, ?_⟩
    exact ⟨_, rfl⟩
  have e1 : ((s : Int) == 285) = false := by simp; omega
  by_cases c2 : s - 257 < 8
  · have c3 : (s : Int) - 257 < 8 := by omega
    go_enter Tryd.func69, Tryd.ntmps69
    go_wp2
    refine bodyPost_ret (v := spanVal (Fo.lenSpan s)) ?_ rfl ⟨rfl, ?_⟩
    · simp [results, Tryd.results69, go_sem, spanVal, Fo.lenSpan, c1, c2]; omega
    · exact ⟨_, rfl⟩
  · have c3 : ¬ (s : Int) - 257 < 8 := by omega
    have g1 : 0 ≤ ((s : Int) - 257) / 4 - 1 := by omega
    have g2 : ((s : Int) - 257) / 4 - 1 < 6 := by omega
    go_enter Tryd.func69, Tryd.ntmps69
    go_wp2
    obtain ⟨v1, v2⟩ := len_val ⟨s, by omega⟩ (by show 265 ≤ s; omega) c1
    simp only [] at v1 v2
    refine bodyPost_ret (v := spanVal (Fo.lenSpan s)) ?_ rfl ⟨rfl, ?_⟩
    · simp [results, Tryd.results69, go_sem, spanVal, v1, v2]
    · exact ⟨_, rfl⟩

theorem dist_val : ∀ s : Fin 30, 4 ≤ s.val → wrap64 (1 + wrap64 ((2 + (s.val : Int) % 2) * 2 ^ (s.val / 2 - 1))) = ((Fo.distSpan s.val).1 : Nat) ∧ (s.val : Int) / 2 - 1 = ((Fo.distSpan s.val).2 : Nat) := by decide +kernel

theorem distanceSpan_ok (s : Nat) (h2 : s ≤ 29) (w : World) : Calls Tryd.prog 71 #[.int .i64 s] w fun e w' => e = .returned (spanVal (Fo.distSpan s)) ∧ ∃ o, w' = w.alloc o := by
  by_cases c1 : s < 4
  · have c3 : (s : Int) < 4 := by omega
    go_enter Tryd.func71, Tryd.ntmps71
    go_wp2
    refine bodyPost_ret (v := spanVal (Fo.distSpan s)) ?_ rfl ⟨rfl, ?_⟩
    · simp [results, Tryd.results71, go_sem, spanVal, Fo.distSpan, c1]
    · exact ⟨_, rfl⟩
  · have c3 : ¬ (s : Int) < 4 := by omega
    have g1 : 0 ≤ (s : Int) / 2 - 1 := by omega
    have g2 : (s : Int) / 2 - 1 < 14 := by omega
    go_enter Tryd.func71, Tryd.ntmps71
    go_wp2
    obtain ⟨v1, v2⟩ := dist_val ⟨s, by omega⟩ (by show 4 ≤ s; omega)
    simp only [] at v1 v2
    refine bodyPost_ret (v := spanVal (Fo.distSpan s)) ?_ rfl ⟨rfl, ?_⟩
    · simp [results, Tryd.results71, go_sem, spanVal, v1, v2]
    · exact ⟨_, rfl⟩

/-- which number of a span is meant -/
theorem within_ok (x : Nat × Nat) (hx : x.2 ≤ 15) (hx1 : x.1 ≤ 100000) {rest : List Bool} (hr : x.2 ≤ rest.length) (h : Fl B br bf bd off cap d most fixed w rest window ov out) :
    Calls Tryd.prog 84 #[.pointer (some ⟨bf, 0, none⟩), spanVal x] w fun e w' => e = .returned (.int .i64 (x.1 + Fo.val (rest.take x.2) : Nat)) ∧ Fl B br bf bd off cap d most fixed w' (rest.drop x.2) window ov out ∧ Kept 5 B [br, bf] w w' := by
  unfold spanVal
  obtain ⟨l1, l2, l3, l4⟩ := h.lt
  have hv := Fo.val_lt (rest.take x.2)
  rw [List.length_take, Nat.min_eq_left hr] at hv
  have hp : 2 ^ x.2 ≤ 2 ^ 15 := Nat.pow_le_pow_right (by omega) hx
  have hbig : Fo.val (rest.take x.2) < 32768 := by omega
  clear hv hp
  go_enter Tryd.func84, Tryd.ntmps84
  go_wp2_with fail
  go_region_with (go_at_call 59; refine (bits_ok x.2 (by omega) hr ((h.alloc (.cells #[.int .i64 (x.1 : Nat), .int .i64 (x.2 : Nat)] 98)).drew)).mono ?_; rintro e w1 ⟨rfl, hf1, k1⟩; have hbox := k1.block w.heap.size _ (by simp; omega) (show (w.alloc (.cells #[.int .i64 (x.1 : Nat), .int .i64 (x.2 : Nat)] 98)).drew.heap[w.heap.size]? = _ from blk_new _ _) (Or.inr (by intro c fz e; simp at e)); have hb0 : w1.cell? ⟨w.heap.size, 0, none⟩ = some (.int .i64 (x.1 : Nat)) := (by rw [cell_blk hbox]; rfl))
  all_goals (have kk := (((Kept.refl 5 B [br, bf] w).alloc (.cells #[.int .i64 (x.1 : Nat), .int .i64 (x.2 : Nat)] 98)).drew).trans k1; clear k1 hbox hb0)
  all_goals go_wp2
  all_goals go_ret
  all_goals exact ⟨ret_int (by first | (rw [IntKind.wrap_i64]; omega) | omega), hf1, kk⟩
end Go.Proofs.YtgkljcmjnphpeaaDoor
