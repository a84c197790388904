/- Numbers and codes put by a writer of bits. -/
import Derived.Test.YtgkljcmjnphpeaaDoorBitW
import Derived.Test.YtgkljcmjnphpeaaDoorPuBlocks
set_option linter.unusedVariables false
set_option linter.unusedSimpArgs false
namespace Go.Proofs.YtgkljcmjnphpeaaDoor
open Go.RowKit
variable {w : World} {B bw T : Nat} {rest : List Value} {ov : Value} {out : List Nat} {used : Nat} {bs : List Bool}

theorem numBits_snoc (n v : Nat) : Fo.numBits (n + 1) v = Fo.numBits n v ++ [(v / 2 ^ n) % 2 == 1] := by
  induction n generalizing v with
  | zero => simp [Fo.numBits]
  | succ n ih =>
    rw [Fo.numBits, ih (v / 2), Fo.numBits, List.cons_append, Nat.div_div_eq_div_mul, ← Nat.pow_succ']

theorem and_shift (v i : Nat) (hv : v < 2 ^ 62) : bits .and .i64 ((v : Int) / 2 ^ i) 1 = (((v / 2 ^ i) % 2 == 1).toNat : Nat) := by
  have e : ((v : Int) / 2 ^ i) = ((v / 2 ^ i : Nat) : Int) := by rw [Int.natCast_ediv, Int.natCast_pow]; rfl
  have h1 : v / 2 ^ i ≤ v := Nat.div_le_self _ _
  have h2 := i64_and_nat (v / 2 ^ i) 1 (by omega) (by omega)
  rw [e]
  refine h2.trans ?_
  rw [nat_mask1]
  rcases Nat.mod_two_eq_zero_or_one (v / 2 ^ i) with h | h <;> rw [h] <;> rfl

set_option maxHeartbeats 400000 in
theorem wbits_ok (h : Wx B bw T rest w bs) (v n : Nat) (hv : v < 2 ^ 62) (hn : n ≤ 62) (hl : bs.length + n ≤ 1099511627776) :
    Calls Tryd.prog 44 #[.pointer (some ⟨bw, 0, none⟩), .int .i64 v, .int .i64 n] w fun e w' => e = .returned (.tuple #[]) ∧ Wx B bw T rest w' (bs ++ Fo.numBits n v) ∧ Kept 5 B [bw] w w' := by
  go_enter Tryd.func44, Tryd.ntmps44
  go_wp2
  go_loopw [8] (fun i wr => ∃ k : Nat, k ≤ n ∧ i = .int .i64 k ∧ Wx B bw T rest wr (bs ++ Fo.numBits k v) ∧ Kept 5 B [bw] w wr) (fun i _ => n - (intOf i).toNat)
  case atStart => exact ⟨0, Nat.zero_le _, rfl, by simpa [Fo.numBits] using h, Kept.refl _ _ _ _⟩
  case round =>
    obtain ⟨k, hk, rfl, hf, kk⟩ := hrel
    by_cases hlt : k < n
    · have ho := and_shift v k hv
      have hlen : (bs ++ Fo.numBits k v).length ≤ 1099511627776 := by rw [List.length_append, Fo.numBits_length]; omega
      have hs := hide (numBits_snoc k v)
      clear hv
      go_wp2_with fail
      refine (wbit_ok hf hlen _).mono ?_
      rintro e w1 ⟨rfl, hf1, k1⟩
      go_wp2
      go_roundw
      case rel => exact ⟨k + 1, by omega, by go_num, by rw [hs.out, ← List.append_assoc]; exact hf1, kk.trans k1⟩
      case measure => simp [intOf]; omega
    · obtain rfl : k = n := by omega
      go_wp2
      go_end0
      exact ⟨rfl, hf, kk⟩

theorem walign_ok (h : Wx B bw T rest w bs) :
    Calls Tryd.prog 72 #[.pointer (some ⟨bw, 0, none⟩)] w fun e w' => e = .returned (.tuple #[]) ∧ Wx B bw T rest w' (bs ++ List.replicate ((8 - bs.length % 8) % 8) false) ∧ Kept 5 B [bw] w w' := by
  obtain ⟨ov, out, used, hq, hb⟩ := h
  have c1 := hq.c1
  have f1 := hq.fz 1
  go_enter Tryd.func72, Tryd.ntmps72
  go_wp2
  go_end0
  refine ⟨rfl, ⟨ov, out, 0, hq.set1 0, ?_⟩, (Kept.refl _ _ _ _).setCell (by simp) _⟩
  rw [hb.2.1]; exact hb.align

theorem highBits_split (v n : Nat) : ∀ k, k ≤ n → Fo.highBits v n = (Fo.highBits v n).take (n - k) ++ Fo.highBits v k := by
  induction n with
  | zero => intro k hk; obtain rfl : k = 0 := by omega
            simp [Fo.highBits]
  | succ n ih =>
    intro k hk
    by_cases c : k = n + 1
    · subst c; simp
    · rw [show n + 1 - k = (n - k) + 1 by omega, Fo.highBits, List.take_succ_cons, List.cons_append, ← ih k (by omega)]
theorem highBits_length (v n : Nat) : (Fo.highBits v n).length = n := by
  induction n with
  | zero => rfl
  | succ n ih => simp [Fo.highBits, ih]
theorem highBits_step (v n k : Nat) (hk : k + 1 ≤ n) : (Fo.highBits v n).take (n - k) = (Fo.highBits v n).take (n - (k + 1)) ++ [(v / 2 ^ k) % 2 == 1] := by
  have h1 := highBits_split v n k (by omega)
  have h2 := highBits_split v n (k + 1) hk
  have e : Fo.highBits v (k + 1) = [(v / 2 ^ k) % 2 == 1] ++ Fo.highBits v k := by simp only [Fo.highBits, List.cons_append, List.nil_append, Nat.shiftRight_eq_div_pow]
  rw [e, ← List.append_assoc] at h2
  exact List.append_cancel_right (h1.symm.trans h2)

def codeVal (x : Nat × Nat) : Value := .agg #[.int .i64 (x.1 : Nat), .int .i64 (x.2 : Nat)]

set_option maxHeartbeats 1000000 in
theorem wcode_ok (h : Wx B bw T rest w bs) (x : Nat × Nat) (hv : x.1 < 2 ^ 62) (hn : x.2 ≤ 62) (hl : bs.length + x.2 ≤ 1099511627776) :
    Calls Tryd.prog 46 #[.pointer (some ⟨bw, 0, none⟩), codeVal x] w fun e w' => e = .returned (.tuple #[]) ∧ Wx B bw T rest w' (bs ++ Fo.highBits x.1 x.2) ∧ Kept 5 B [bw] w w' := by
  obtain ⟨v, n⟩ := x
  unfold codeVal
  simp only [] at hv hn hl ⊢
  have hbw : B ≤ bw ∧ bw < w.heap.size := by obtain ⟨_, _, _, hq, _⟩ := h; exact ⟨hq.hb, lt_of_block hq.blk⟩
  go_enter Tryd.func46, Tryd.ntmps46
  go_wp2
  go_loopw [4] (fun i wr => ∃ k : Nat, k ≤ n ∧ i = .int .i64 ((k : Int) - 1) ∧ Wx B bw T rest wr (bs ++ (Fo.highBits v n).take (n - k)) ∧ Kept 5 B [bw] (w.alloc (.cells #[.int .i64 v, .int .i64 n] 74)) wr) (fun i _ => (intOf i + 1).toNat)
  case atStart => exact ⟨n, Nat.le_refl _, rfl, by simpa using h.alloc _, Kept.refl _ _ _ _⟩
  case round =>
    obtain ⟨k, hk, rfl, hf, kk⟩ := hrel
    have hbox := kk.block w.heap.size _ (by simp; omega) (blk_new _ _) (Or.inr (by intro c fz e; simp at e))
    by_cases hlt : 0 < k
    · obtain ⟨j, rfl⟩ : ∃ j, k = j + 1 := ⟨k - 1, by omega⟩
      have hb0 : wr.cell? ⟨w.heap.size, 0, none⟩ = some (.int .i64 (v : Nat)) := by rw [cell_blk hbox]; rfl
      have ho := and_shift v j hv
      have hlen : (bs ++ (Fo.highBits v n).take (n - (j + 1))).length ≤ 1099511627776 := by rw [List.length_append, List.length_take, highBits_length]; omega
      have hs := hide (highBits_step v n j hk)
      have ej : ((j + 1 : Nat) : Int) - 1 = j := by omega
      rw [ej]
      clear hv hbox ej
      go_wp2_with fail
      refine (wbit_ok hf hlen _).mono ?_
      rintro e w1 ⟨rfl, hf1, k1⟩
      go_wp2
      go_roundw
      case rel => exact ⟨j, by omega, by go_num, by rw [hs.out, ← List.append_assoc]; exact hf1, kk.trans k1⟩
      case measure => simp [intOf]
    · obtain rfl : k = 0 := by omega
      go_wp2
      go_end0
      refine ⟨rfl, ?_, ((Kept.refl _ _ _ _).alloc _).trans kk⟩
      rwa [Nat.sub_zero, List.take_of_length_le (by rw [highBits_length]; omega)] at hf
end Go.Proofs.YtgkljcmjnphpeaaDoor
