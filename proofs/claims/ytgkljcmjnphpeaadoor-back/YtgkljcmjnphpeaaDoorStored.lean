/- A block of bytes as they are: inflater.stored. -/
import Derived.Test.YtgkljcmjnphpeaaDoorCoded
set_option linter.unusedVariables false
set_option linter.unusedSimpArgs false
namespace Go.Proofs.YtgkljcmjnphpeaaDoor
open Go.RowKit
variable {B br bf bd off cap : Nat} {d : List Nat} {most : Nat} {fixed : List Value} {w : World} {p held left window : Nat} {ov : Value} {out : List Nat}

theorem bits8_inj (a b : Nat) (ha : a < 256) (hb : b < 256) (h : Fo.bits8 a = Fo.bits8 b) : a = b := by
  rw [← Fo.val_bits8 a ha, ← Fo.val_bits8 b hb, h]
theorem bitsOf_inj : ∀ (a b : List Nat), a.length = b.length → (∀ i, i < a.length → nth a i < 256) → (∀ i, i < b.length → nth b i < 256) → Fo.bitsOf a = Fo.bitsOf b → a = b
  | [], [], _, _, _, _ => rfl
  | [], _ :: _, h, _, _, _ => by simp at h
  | _ :: _, [], h, _, _, _ => by simp at h
  | x :: a, y :: b, hl, h1, h2, h => by
    rw [Fo.bitsOf_cons, Fo.bitsOf_cons] at h
    have h3 := List.append_inj h rfl
    have e1 : x = y := bits8_inj x y (h1 0 (by simp)) (h2 0 (by simp)) h3.1
    have e2 : a = b := bitsOf_inj a b (by simpa using hl) (fun i hi => h1 (i + 1) (by simpa using hi)) (fun i hi => h2 (i + 1) (by simpa using hi)) h3.2
    rw [e1, e2]

theorem addr_add2 (b o i : Nat) : (⟨b, o, none⟩ : Addr).add i = ⟨b, o + i, none⟩ := by unfold Addr.add; split <;> simp_all

/-- At whole bytes, bytes D ahead: they are the data's. -/
theorem Bi.bytes (h : Bi B br bf bd off cap d most fixed w p held 0 window ov out) (D : List Nat) (hD : ∀ i, i < D.length → nth D i < 256) (rest : List Bool) (hr : Fo.bitsOf (d.drop p) = Fo.bitsOf D ++ rest) :
    p + D.length ≤ d.length ∧ (∀ i, i < D.length → nth d (p + i) = nth D i) ∧ Fo.bitsOf (d.drop (p + D.length)) = rest := by
  have hp := h.rd.lp
  have hl : p + D.length ≤ d.length := by
    have := congrArg List.length hr
    rw [Fo.bitsOf_length, List.length_append, Fo.bitsOf_length, List.length_drop] at this
    omega
  have e : d.drop p = (d.drop p).take D.length ++ d.drop (p + D.length) := by
    rw [← List.drop_drop, List.take_append_drop]
  rw [e, Fo.bitsOf_append] at hr
  have hlen : (Fo.bitsOf ((d.drop p).take D.length)).length = (Fo.bitsOf D).length := by
    rw [Fo.bitsOf_length, Fo.bitsOf_length, List.length_take, List.length_drop]; omega
  have h2 := List.append_inj hr hlen
  have e3 : (d.drop p).take D.length = D := by
    refine bitsOf_inj _ _ (by rw [List.length_take, List.length_drop]; omega) ?_ hD h2.1
    intro i hi
    rw [List.length_take, List.length_drop] at hi
    have := h.rd.byt (p + i) (by omega)
    simpa [nth, List.getElem?_take, List.getElem?_drop, show i < D.length by omega] using this
  refine ⟨hl, ?_, h2.2⟩
  intro i hi
  rw [← e3]
  simp [nth, List.getElem?_take, List.getElem?_drop, hi]

theorem Fl.whole {rest : List Bool} (h : Fl B br bf bd off cap d most fixed w rest window ov out) (h8 : rest.length % 8 = 0) : ∃ p held, Bi B br bf bd off cap d most fixed w p held 0 window ov out ∧ Fo.bitsOf (d.drop p) = rest := by
  obtain ⟨p, held, left, hb, hl, hr⟩ := h
  have : left = 0 := by
    rw [← hr, bitsLeft, List.length_append, Fo.numBits_length, Fo.bitsOf_length] at h8; omega
  subst this
  exact ⟨p, held, hb, by rw [← hr]; simp [bitsLeft, Fo.numBits]⟩

theorem bitsNum_ok (n v : Nat) (hn : n ≤ 16) (hv : v < 2 ^ n) {rest : List Bool} (h : Fl B br bf bd off cap d most fixed w (Fo.numBits n v ++ rest) window ov out) :
    Calls Tryd.prog 59 #[.pointer (some ⟨bf, 0, none⟩), .int .i64 n] w fun e w' => e = .returned (.int .i64 v) ∧ Fl B br bf bd off cap d most fixed w' rest window ov out ∧ Kept 5 B [br, bf] w w' := by
  refine (bits_ok n hn (by simp [Fo.numBits_length]) h).mono ?_
  rintro e w' ⟨rfl, hf, k⟩
  rw [List.drop_left' (Fo.numBits_length n v)] at hf
  rw [List.take_left' (Fo.numBits_length n v), Fo.val_numBits, Nat.mod_eq_of_lt hv]
  exact ⟨rfl, hf, k⟩

set_option maxRecDepth 100000 in
set_option maxHeartbeats 1000000 in
theorem stored_ok (D : List Nat) (hD0 : 0 < D.length) (hD1 : D.length ≤ 65535) (hD : ∀ i, i < D.length → nth D i < 256) {rest rest' : List Bool} (h : Fl B br bf bd off cap d most fixed w rest window ov out)
    (hr : rest.drop (rest.length % 8) = Fo.numBits 16 D.length ++ (Fo.numBits 16 (65535 - D.length) ++ (Fo.bitsOf D ++ rest'))) (h8 : rest'.length % 8 = 0) (ho : out.length + D.length ≤ most) :
    Calls Tryd.prog 60 #[.pointer (some ⟨bf, 0, none⟩)] w fun e w' => e = .returned (.tuple #[]) ∧ ∃ ov', Fl B br bf bd off cap d most fixed w' rest' window ov' (out ++ D) ∧ Kept 5 B [br, bf] w w' := by
  have HR := hide hr
  have H8 := hide h8
  clear hr h8
  have tok : True := trivial
  go_enter Tryd.func60, Tryd.ntmps60
  go_wp2_with fail
  refine (align_ok h).mono ?_
  rintro e w1 ⟨rfl, ⟨p1, held1, hb1, hq1⟩, k1⟩
  rw [HR.out] at hq1
  have hf1 : Fl B br bf bd off cap d most fixed w1 (Fo.numBits 16 D.length ++ (Fo.numBits 16 (65535 - D.length) ++ (Fo.bitsOf D ++ rest'))) window ov out := ⟨p1, held1, 0, hb1, by omega, by rw [← hq1]; simp [bitsLeft, Fo.numBits]⟩
  clear hb1 hq1 h
  go_wp2_with fail
  go_region_with (first | (go_at_call 59; have _t := tok; refine (bitsNum_ok 16 D.length (by omega) (by omega) hf1.drew).mono ?_; rintro e w2 ⟨rfl, hf2, k2⟩; clear tok) | (go_at_call 59; refine (bitsNum_ok 16 (65535 - D.length) (by omega) (by omega) hf2).mono ?_; rintro e w3 ⟨rfl, hf3, k3⟩))
  have kk := (k1.drew.trans k2).trans k3
  clear k1 k2 k3 hf1 hf2
  have e1 : ((65535 - D.length : Nat) : Int) = 65535 - (D.length : Int) := by omega
  rw [e1]
  go_wp2_with fail
  refine (must_yes _).mono ?_
  rintro e w' ⟨rfl, rfl⟩
  obtain ⟨p, held, hb, hq⟩ := hf3.whole (by rw [List.length_append, Fo.bitsOf_length]; have := H8.out; omega)
  obtain ⟨q1, q2, q3⟩ := hb.bytes D hD rest' hq
  have Q2 := hide q2
  have Q3 := hide q3
  clear q2 q3 hq hf3
  have c0 := hb.c0
  go_wp2_with fail
  go_region_with (first | (go_at_call 40; refine (take_ok (hb.rd.drewN 1) D.length hD0 q1).mono ?_; rintro e w4 ⟨rfl, r4, k4⟩; have h4 := hb.rdKept r4 (((Kept.refl _ _ _ _).drewN 1).trans k4); have c4 := h4.c0) | (go_at_call 50; refine (put_ok r4 D ⟨bd, off + p, none⟩ (cap - p) ho (by have := r4.sz; omega) (fun i hi => by rw [addr_add2, ← Q2.out i hi, Nat.add_assoc]; exact r4.dat (p + i) (by omega))).mono ?_; rintro e w5 ⟨rfl, ov5, r5, k5⟩))
  all_goals go_wp2
  all_goals go_end0
  all_goals exact ⟨rfl, ov5, ⟨p + D.length, held, 0, h4.rdKept r5 k5, by omega, by rw [← Q3.out]; simp [bitsLeft, Fo.numBits]⟩, (kk.drewN 1).trans ((k4.trans k5).mono (by simp))⟩
end Go.Proofs.YtgkljcmjnphpeaaDoor
