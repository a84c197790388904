/- A map by three bytes. -/
import Derived.Test.YtgkljcmjnphpeaaDoorEq4
import Derived.Test.YtgkljcmjnphpeaaDoorRd
namespace Go.Proofs.YtgkljcmjnphpeaaDoor
open Go.RowKit

def key3 (a b c : Nat) : Value := .agg #[.int .u8 (a : Int), .int .u8 (b : Int), .int .u8 (c : Int)]

theorem key3_inj {a b c a' b' c' : Nat} (h : key3 a b c = key3 a' b' c') : a = a' ∧ b = b' ∧ c = c' := by
  simp [key3] at h; omega

theorem run_eq3 (a0 a1 a2 b0 b1 b2 : Nat) (h0 : a0 < 256) (h1 : a1 < 256) (h2 : a2 < 256) (k0 : b0 < 256) (k1 : b1 < 256) (k2 : b2 < 256) (W : World) :
    (Op.equal 109 (key3 a0 a1 a2) (key3 b0 b1 b2)).run Tryd.prog W = .ok (decide ([a0, a1, a2] = [b0, b1, b2])) W := by
  have h := run_equalIn_bytes (P := Tryd.prog) W 9998 109 5 3 Tryd.underlying109 Tryd.underlying5 size_byte [UInt8.ofNat a0, UInt8.ofNat a1, UInt8.ofNat a2] [UInt8.ofNat b0, UInt8.ofNat b1, UInt8.ofNat b2] rfl rfl
  have e : ∀ n : Nat, n < 256 → (UInt8.ofNat n).toNat = n := fun n hn => by simp [Nat.mod_eq_of_lt hn]
  have inj : ∀ m n : Nat, m < 256 → n < 256 → (UInt8.ofNat m = UInt8.ofNat n ↔ m = n) := fun m n hm hn => ⟨fun h => by rw [← e m hm, ← e n hn, h], fun h => by rw [h]⟩
  have hb : ([UInt8.ofNat a0, UInt8.ofNat a1, UInt8.ofNat a2] == [UInt8.ofNat b0, UInt8.ofNat b1, UInt8.ofNat b2]) = decide ([a0, a1, a2] = [b0, b1, b2]) := by
    rw [Bool.eq_iff_iff, beq_iff_eq, decide_eq_true_iff]
    simp only [List.cons.injEq, and_true, inj a0 b0 h0 k0, inj a1 b1 h1 k1, inj a2 b2 h2 k2]
  rw [hb] at h
  simp only [List.map_cons, List.map_nil, Extern.Stop.cell, e _ h0, e _ h1, e _ h2, e _ k0, e _ k1, e _ k2] at h
  rw [show (9998 + 2 : Nat) = 10000 from rfl] at h
  exact h

theorem run_check3 (em : Bool) (a b c : Nat) (W : World) : (Instr.checkKey em 10000 109 (key3 a b c)).run Tryd.prog W = .ok () W := by
  cases em <;> kernel_rfl
theorem run_stays3 (a b c : Nat) (W : World) : (Instr.keyThatStays (key3 a b c) (key3 a b c)).run Tryd.prog W = .ok (key3 a b c) W := by
  have h : Instr.sameBits 10000 (key3 a b c) (key3 a b c) = true := by
    simp [Instr.sameBits, key3]
  unfold Instr.keyThatStays
  rw [if_pos h]; rfl

/-- All keys of a map are three bytes. -/
def Keys3 (es : List MapEntry) : Prop := ∀ e ∈ es, ∃ a b c, a < 256 ∧ b < 256 ∧ c < 256 ∧ e.key = key3 a b c

theorem run_asking (a b c : Nat) (ha : a < 256) (hb : b < 256) (hc : c < 256) (W : World) : ∀ (es : List MapEntry) (i : Nat), Keys3 es →
    ((Instr.findAsking 109 (key3 a b c) es i).run Tryd.prog W = .ok none W) ∨ ∃ j e, (Instr.findAsking 109 (key3 a b c) es i).run Tryd.prog W = .ok (some (i + j, e.val)) W ∧ es[j]? = some e ∧ e.key = key3 a b c
  | [], i, _ => Or.inl rfl
  | e :: es, i, h => by
    obtain ⟨a', b', c', ha', hb', hc', hk⟩ := h e (by simp)
    have hq := run_eq3 a b c a' b' c' ha hb hc ha' hb' hc' W
    by_cases hd : [a, b, c] = [a', b', c']
    · rw [decide_eq_true hd] at hq
      refine Or.inr ⟨0, e, ?_, rfl, ?_⟩
      · simp [Instr.findAsking, hk, hq, Result.andThen]
      · rw [hk]; simp at hd; obtain ⟨rfl, rfl, rfl⟩ := hd; rfl
    · rw [decide_eq_false hd] at hq
      have hs : (Instr.findAsking 109 (key3 a b c) (e :: es) i).run Tryd.prog W = (Instr.findAsking 109 (key3 a b c) es (i + 1)).run Tryd.prog W := by
        simp [Instr.findAsking, hk, hq, Result.andThen]
      rw [hs]
      rcases run_asking a b c ha hb hc W es (i + 1) (fun x hx => h x (List.mem_cons_of_mem _ hx)) with h1 | ⟨j, x, h1, h2, h3⟩
      · exact Or.inl h1
      · exact Or.inr ⟨j + 1, x, by rw [h1, show i + 1 + j = i + (j + 1) by omega], by simpa using h2, h3⟩

theorem run_find3 (a b c : Nat) (ha : a < 256) (hb : b < 256) (hc : c < 256) (W : World) (es : List MapEntry) (h : Keys3 es) :
    ((Instr.findKey 109 (key3 a b c) es).run Tryd.prog W = .ok none W) ∨ ∃ j e, (Instr.findKey 109 (key3 a b c) es).run Tryd.prog W = .ok (some (j, e.val)) W ∧ es[j]? = some e ∧ e.key = key3 a b c := by
  have hu : (underlying 109).run Tryd.prog W = .ok (.array 3 5) W := by kernel_rfl
  cases es with
  | nil => refine Or.inl ?_; simp [Instr.findKey, hu, Instr.findNow, Result.andThen]
  | cons e es =>
    have hn : Instr.findNow (.array 3 5) (key3 a b c) (e :: es) 0 = none := by
      obtain ⟨a', b', c', _, _, _, hk⟩ := h e (by simp)
      simp [Instr.findNow, hk, key3, Instr.sameNow]
    have he : (Instr.findKey 109 (key3 a b c) (e :: es)).run Tryd.prog W = (Instr.findAsking 109 (key3 a b c) (e :: es)).run Tryd.prog W := by
      simp [Instr.findKey, hu, hn, Result.andThen]
    rw [he]
    rcases run_asking a b c ha hb hc W (e :: es) 0 h with h1 | ⟨j, x, h1, h2, h3⟩
    · exact Or.inl h1
    · exact Or.inr ⟨j, x, by rw [h1, Nat.zero_add], h2, h3⟩
end Go.Proofs.YtgkljcmjnphpeaaDoor
