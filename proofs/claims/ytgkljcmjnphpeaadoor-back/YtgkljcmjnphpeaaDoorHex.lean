/- The filter of hexadecimal digits, read. -/
import Derived.Test.YtgkljcmjnphpeaaDoorWh
import Derived.Test.YtgkljcmjnphpeaaDoorPuHexes
import Derived.Laws.BitsAllLaws
set_option linter.unusedVariables false
set_option linter.unusedSimpArgs false
namespace Go.Proofs.YtgkljcmjnphpeaaDoor
open Go.RowKit
variable {B br bd off cap : Nat} {d : List Nat} {most : Nat} {w : World} {p : Nat} {ov : Value} {out : List Nat}

theorem ret_byte_bool {a b : Int} {t : Bool} (h : a = b) : Ending.returned (.tuple #[.int .u8 a, .bool t]) = .returned (.tuple #[.int .u8 b, .bool t]) := by rw [h]

theorem hexDigit_ok (c v : Nat) (w : World) (h : Fo.hexVal c = some v) : Calls Tryd.prog 73 #[.int .u8 c] w fun e w' => e = .returned (.tuple #[.int .u8 v, .bool true]) ∧ w' = w := by
  unfold Fo.hexVal at h
  by_cases h1 : 48 ≤ c ∧ c ≤ 57
  · rw [if_pos h1] at h
    have hv := Option.some.inj h
    clear h
    subst hv
    have a1 : (48 : Int) ≤ (c : Int) := by omega
    have a2 : (c : Int) ≤ 57 := by omega
    go_enter Tryd.func73, Tryd.ntmps73
    go_wp2_with (go_at_call 54; refine (within_byte _ _ _ _).mono ?_; rintro e w' ⟨rfl, rfl⟩)
    go_ret2
    exact ⟨ret_byte_bool (by omega), rfl⟩
  rw [if_neg h1] at h
  have n1 : (decide ((48 : Int) ≤ (c : Int)) && decide ((c : Int) ≤ 57)) = false := by simp; omega
  by_cases h2 : 97 ≤ c ∧ c ≤ 102
  · rw [if_pos h2] at h
    have hv := Option.some.inj h
    clear h
    subst hv
    have a1 : (97 : Int) ≤ (c : Int) := by omega
    have a2 : (c : Int) ≤ 102 := by omega
    go_enter Tryd.func73, Tryd.ntmps73
    go_wp2_with (go_at_call 54; refine (within_byte _ _ _ _).mono ?_; rintro e w' ⟨rfl, rfl⟩)
    go_ret2
    exact ⟨ret_byte_bool (by omega), rfl⟩
  rw [if_neg h2] at h
  have n2 : (decide ((97 : Int) ≤ (c : Int)) && decide ((c : Int) ≤ 102)) = false := by simp; omega
  by_cases h3 : 65 ≤ c ∧ c ≤ 70
  · rw [if_pos h3] at h
    have hv := Option.some.inj h
    clear h
    subst hv
    have a1 : (65 : Int) ≤ (c : Int) := by omega
    have a2 : (c : Int) ≤ 70 := by omega
    go_enter Tryd.func73, Tryd.ntmps73
    go_wp2_with (go_at_call 54; refine (within_byte _ _ _ _).mono ?_; rintro e w' ⟨rfl, rfl⟩)
    go_ret2
    exact ⟨ret_byte_bool (by omega), rfl⟩
  · rw [if_neg h3] at h
    cases h

theorem hexValue_ok (c v : Nat) (w : World) (h : Fo.hexVal c = some v) : Calls Tryd.prog 49 #[.int .u8 c] w fun e w' => e = .returned (.int .u8 v) ∧ w' = w := by
  have H : Hid (Fo.hexVal c = some v) := h
  clear h
  go_enter Tryd.func49, Tryd.ntmps49
  go_wp2_with (first | (go_at_call 73; refine (hexDigit_ok _ _ _ H.out).mono ?_; rintro e w' ⟨rfl, rfl⟩) | (go_at_call 39; refine (must_yes _).mono ?_; rintro e w' ⟨rfl, rfl⟩))
  go_ret
  exact ⟨rfl, rfl⟩

theorem join16 (a b : Nat) (ha : a < 16) (hb : b < 16) : a * 16 ||| b = a * 16 + b := by
  have : ∀ a b : Fin 16, a.val * 16 ||| b.val = a.val * 16 + b.val := by decide
  exact this ⟨a, ha⟩ ⟨b, hb⟩

theorem hexPair_ok (h : Rd B br bd off cap d most w p ov out) (a b : Nat) (ha : a < 16) (hb : b < 16) (hp : p + 1 < d.length) (h1 : nth d p = Fo.hexDig a) (h2 : nth d (p + 1) = Fo.hexDig b) (ho : out.length + 1 ≤ most) :
    Calls Tryd.prog 30 #[.pointer (some ⟨br, 0, none⟩)] w fun e w' => e = .returned (.bool true) ∧ ∃ ov', Rd B br bd off cap d most w' (p + 2) ov' (out ++ [16 * a + b]) ∧ Kept 5 B [br] w w' := by
  have n1 : whiteB (nth d p) = false := by rw [h1]; exact Fo.white_dig a ha
  have n2 : whiteB (nth d (p + 1)) = false := by rw [h2]; exact Fo.white_dig b hb
  have v1 : Hid (Fo.hexVal (nth d p) = some a) := by rw [h1]; exact Fo.hexVal_dig a ha
  have v2 : Hid (Fo.hexVal (nth d (p + 1)) = some b) := by rw [h2]; exact Fo.hexVal_dig b hb
  have e1 : ((nth d p : Int) == 62) = false := by rw [h1]; have := Fo.hexDig_ne a ha; simp; omega
  have e2 : ((nth d (p + 1) : Int) == 62) = false := by rw [h2]; have := Fo.hexDig_ne b hb; simp; omega
  clear h1 h2
  go_enter Tryd.func30, Tryd.ntmps30
  go_wp2_with fail
  refine (nextInk_ok h (by omega) n1).mono ?_
  rintro e w1 ⟨rfl, r1, k1⟩
  go_wp2_with fail
  refine (hexValue_ok _ _ _ v1.out).mono ?_
  rintro e w' ⟨rfl, rfl⟩
  go_wp2_with fail
  refine (nextInk_ok r1 hp n2).mono ?_
  rintro e w2 ⟨rfl, r2, k2⟩
  go_wp2_with fail
  refine (hexValue_ok _ _ _ v2.out).mono ?_
  rintro e w' ⟨rfl, rfl⟩
  go_wp2_with fail
  refine (put1_ok r2 (16 * a + b) _ ?_ ho).mono ?_
  · have := u8_or_nat (a * 16) b (by omega) (by omega)
    rw [join16 a b ha hb] at this
    simp only [Int.natCast_mul, Int.natCast_add] at this ⊢
    rw [show ((16 : Nat) : Int) = 16 from rfl] at this ⊢
    rw [this]; omega
  rintro e w3 ⟨rfl, ov', r3, k3⟩
  go_wp2
  go_ret
  exact ⟨rfl, ov', r3, (k1.trans k2).trans k3⟩

theorem hexPair_end (h : Rd B br bd off cap d most w p ov out) (hp : p < d.length) (h1 : nth d p = 62) :
    Calls Tryd.prog 30 #[.pointer (some ⟨br, 0, none⟩)] w fun e w' => e = .returned (.bool false) ∧ Rd B br bd off cap d most w' (p + 1) ov out ∧ Kept 5 B [br] w w' := by
  have n1 : whiteB (nth d p) = false := by rw [h1]; rfl
  have e1 : ((nth d p : Int) == 62) = true := by rw [h1]; rfl
  clear h1
  go_enter Tryd.func30, Tryd.ntmps30
  go_wp2_with fail
  refine (nextInk_ok h (by omega) n1).mono ?_
  rintro e w1 ⟨rfl, r1, k1⟩
  go_wp2
  go_ret
  exact ⟨rfl, r1, k1⟩

/-- Digits of the bytes l and an end are l. -/
theorem decodeHex_ok (l : List Nat) (hl : ∀ i, i < l.length → nth l i < 256) (hd : d = Fo.hexOf l ++ [62]) (h : Rd B br bd off cap d most w 0 ov []) (hm : l.length ≤ most) :
    Calls Tryd.prog 19 #[.pointer (some ⟨br, 0, none⟩)] w fun e w' => e = .returned (.tuple #[]) ∧ ∃ ov', Rd B br bd off cap d most w' d.length ov' l ∧ Kept 5 B [br] w w' := by
  have hdl : d.length = 2 * l.length + 1 := by rw [hd]; simp [Fo.hexOf_length]
  have hn : ∀ k, k < l.length → nth d (2 * k) = Fo.hexDig (nth l k / 16) ∧ nth d (2 * k + 1) = Fo.hexDig (nth l k % 16) := by
    intro k hk
    have e : l = l.take k ++ (nth l k :: l.drop (k + 1)) := by
      have : nth l k = l[k] := by simp [nth, hk]
      rw [this, ← List.drop_eq_getElem_cons hk, List.take_append_drop]
    have e2 : d = Fo.hexOf (l.take k) ++ (Fo.hexDig (nth l k / 16) :: Fo.hexDig (nth l k % 16) :: (Fo.hexOf (l.drop (k + 1)) ++ [62])) := by
      rw [hd]; conv => lhs; rw [e]
      rw [Fo.hexOf_append, Fo.hexOf_cons]; simp
    have e3 : (Fo.hexOf (l.take k)).length = 2 * k := by rw [Fo.hexOf_length, List.length_take]; omega
    constructor
    · rw [e2]; simp [nth, List.getElem?_append_right, e3]
    · rw [e2]; simp [nth, List.getElem?_append_right, e3]
  have hz : nth d (2 * l.length) = 62 := by rw [hd]; simp [nth, List.getElem?_append_right, Fo.hexOf_length]
  clear hd
  go_enter Tryd.func19, Tryd.ntmps19
  go_wp2
  go_loopw [3] (fun _ wr => ∃ (k : Nat) (ov' : Value), k ≤ l.length ∧ Rd B br bd off cap d most wr (2 * k) ov' (l.take k) ∧ Kept 5 B [br] w wr) (fun _ wr => d.length - posOf br wr)
  case atStart => exact ⟨0, ov, Nat.zero_le _, h, Kept.refl _ _ _ _⟩
  case round =>
    obtain ⟨k, ov', hk, r, kk⟩ := hrel
    have mr := r.posOf
    by_cases hlt : k < l.length
    · have hb := hl k hlt
      obtain ⟨n1, n2⟩ := hn k hlt
      have hlen : (l.take k).length = k := by rw [List.length_take]; omega
      have N1 := hide n1
      have N2 := hide n2
      clear n1 n2
      go_wp2_with fail
      refine (hexPair_ok r (nth l k / 16) (nth l k % 16) (by omega) (by omega) (by omega) N1.out N2.out (by omega)).mono ?_
      rintro e w1 ⟨rfl, ov2, r2, k2⟩
      have m2 := r2.posOf
      have e1 : l.take k ++ [16 * (nth l k / 16) + nth l k % 16] = l.take (k + 1) := by
        rw [Nat.div_add_mod, List.take_succ_eq_append_getElem hlt]; simp [nth, hlt]
      rw [e1] at r2
      clear e1
      go_wp2
      go_roundw
      case rel => exact ⟨k + 1, ov2, by omega, r2, kk.trans k2⟩
      case measure => rw [mr, m2]; omega
    · obtain rfl : k = l.length := by omega
      go_wp2_with fail
      refine (hexPair_end r (by omega) hz).mono ?_
      rintro e w1 ⟨rfl, r2, k2⟩
      rw [← hdl, List.take_length] at r2
      go_wp2_with fail
      refine (skipWhite_end r2).mono ?_
      rintro e w2 ⟨rfl, r3, k3⟩
      go_wp2_with fail
      refine (end_ok r3).mono ?_
      rintro e w3 ⟨rfl, q, rfl⟩
      go_wp2
      go_end0
      exact ⟨rfl, ov', r3.drewN q, ((kk.trans k2).trans k3).drewN q⟩
end Go.Proofs.YtgkljcmjnphpeaaDoor
