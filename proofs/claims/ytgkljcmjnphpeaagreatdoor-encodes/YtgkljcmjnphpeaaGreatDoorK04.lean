/- A whole block written cell by cell. -/
import Derived.Test.YtgkljcmjnphpeaaGreatDoorK03
import Derived.Test.YtgkljcmjnphpeaaGreatDoorK00
import Derived.Laws.IdiomCopy
set_option linter.unusedVariables false
set_option linter.unusedSimpArgs false
namespace Go.Proofs.YtgkljcmjnphpeaaGreatDoor
open Go.RowKit
variable {B br bf bd off cap : Nat} {d : List Nat} {most : Nat} {fixed : List Value} {w : World} {p held left window : Nat} {ov : Value} {out : List Nat}
/-- The codes that a block goes by stand where bc, oc says, whatever the reading of it does. -/
def Codes4 (B br bf bd off cap : Nat) (d : List Nat) (most : Nat) (fixed : List Value) (window : Nat) (bc oc : Nat) (c : Fo.Codes) (w : World) : Prop :=
  ∀ w' r ov out, Fl B br bf bd off cap d most fixed w' r window ov out → Kept 5 B [br, bf] w w' → Cd w' bc oc c.cs c.ss ∧ Cd w' bc (oc + 17) c.cd c.sd
theorem Codes4.kept {bc oc : Nat} {c : Fo.Codes} {w' : World} (h : Codes4 B br bf bd off cap d most fixed window bc oc c w) (k : Kept 5 B [br, bf] w w') : Codes4 B br bf bd off cap d most fixed window bc oc c w' :=
  fun w'' r ov out hf kk => h w'' r ov out hf (k.trans kk)
structure CodesOk (c : Fo.Codes) : Prop where
  s1 : psum c.cs 15 ≤ c.ss.length
  l1 : c.ss.length ≤ 1000
  s2 : psum c.cd 15 ≤ c.sd.length
  l2 : c.sd.length ≤ 1000
theorem part_end_ok (bc oc : Nat) (c : Fo.Codes) (hc : CodesOk c) (hC : Codes4 B br bf bd off cap d most fixed window bc oc c w) {rest rest' : List Bool} (h : Fl B br bf bd off cap d most fixed w rest window ov out)
    (hs : Fo.sym c.cs c.ss rest = some (256, rest')) :
    Calls Tryz.prog 278 #[.pointer (some ⟨bf, 0, none⟩), .pointer (some ⟨bc, oc, none⟩)] w fun e w' => e = .returned (.bool false) ∧ Fl B br bf bd off cap d most fixed w' rest' window ov out ∧ Kept 5 B [br, bf] w w' := by
  have HS := hide hs
  clear hs
  go_enter Tryz.func278, Tryz.ntmps278
  go_wp2_with fail
  go_region_with (go_at_call 313; refine (symbol_ok bc oc c.cs c.ss hc.s1 hc.l1 (fun w' r hf k => (hC w' r _ _ hf (((Kept.refl _ _ _ _).drew).trans k)).1) HS.out h.drew).mono ?_; rintro e w1 ⟨rfl, hf1, k1⟩)
  go_wp2
  go_ret
  exact ⟨rfl, hf1, ((Kept.refl _ _ _ _).drew).trans k1⟩
theorem part_lit_ok (bc oc : Nat) (c : Fo.Codes) (hc : CodesOk c) (hC : Codes4 B br bf bd off cap d most fixed window bc oc c w) {rest rest' : List Bool} (h : Fl B br bf bd off cap d most fixed w rest window ov out)
    (s : Nat) (hs : Fo.sym c.cs c.ss rest = some (s, rest')) (h1 : s < 256) (ho : out.length + 1 ≤ most) :
    Calls Tryz.prog 278 #[.pointer (some ⟨bf, 0, none⟩), .pointer (some ⟨bc, oc, none⟩)] w fun e w' => e = .returned (.bool true) ∧ ∃ ov', Fl B br bf bd off cap d most fixed w' rest' window ov' (out ++ [s]) ∧ Kept 5 B [br, bf] w w' := by
  have HS := hide hs
  clear hs
  go_enter Tryz.func278, Tryz.ntmps278
  go_wp2_with fail
  go_region_with (go_at_call 313; refine (symbol_ok bc oc c.cs c.ss hc.s1 hc.l1 (fun w' r hf k => (hC w' r _ _ hf (((Kept.refl _ _ _ _).drew).trans k)).1) HS.out h.drew).mono ?_; rintro e w1 ⟨rfl, hf1, k1⟩)
  obtain ⟨p, held, left, hb, hl, hr⟩ := hf1
  have c0 := hb.c0
  have HR := hide hr
  clear hr
  have h1' : (s : Int) < 256 := by omega
  go_wp2_with fail
  refine (put1_ok hb.rd s _ ?_ ho).mono ?_
  · first | rfl | omega
  rintro e w2 ⟨rfl, ov', r2, k2⟩
  go_wp2
  go_ret
  exact ⟨rfl, ov', ⟨p, held, left, hb.rdKept r2 k2, hl, HR.out⟩, (((Kept.refl _ _ _ _).drew).trans k1).trans (k2.mono (by simp))⟩
theorem lenSpan_le : ∀ s : Fin 286, 257 ≤ s.val → (Fo.lenSpan s.val).2 ≤ 5 ∧ (Fo.lenSpan s.val).1 ≤ 258 := by decide +kernel
theorem distSpan_le : ∀ s : Fin 30, (Fo.distSpan s.val).2 ≤ 13 ∧ (Fo.distSpan s.val).1 ≤ 24577 ∧ 1 ≤ (Fo.distSpan s.val).1 := by decide +kernel
set_option maxRecDepth 100000 in
set_option maxHeartbeats 1000000 in
theorem part_copy_ok (bc oc : Nat) (c : Fo.Codes) (hc : CodesOk c) (hC : Codes4 B br bf bd off cap d most fixed window bc oc c w) {rest r1 r2 r3 r4 : List Bool} (h : Fl B br bf bd off cap d most fixed w rest window ov out)
    (s x t y : Nat) (hs : Fo.sym c.cs c.ss rest = some (s, r1)) (a1 : 257 ≤ s) (a2 : s ≤ 285) (hx : Fo.take (Fo.lenSpan s).2 r1 = some (x, r2)) (ht : Fo.sym c.cd c.sd r2 = some (t, r3)) (a3 : t ≤ 29)
    (hy : Fo.take (Fo.distSpan t).2 r3 = some (y, r4)) (b1 : (Fo.distSpan t).1 + y ≤ out.length) (b2 : (Fo.distSpan t).1 + y ≤ window) (b3 : out.length + ((Fo.lenSpan s).1 + x) ≤ most) (hw : window ≤ 32768) :
    Calls Tryz.prog 278 #[.pointer (some ⟨bf, 0, none⟩), .pointer (some ⟨bc, oc, none⟩)] w fun e w' => e = .returned (.bool true) ∧ ∃ ov', Fl B br bf bd off cap d most fixed w' r4 window ov' (Fo.copy ((Fo.distSpan t).1 + y) ((Fo.lenSpan s).1 + x) out) ∧ Kept 5 B [br, bf] w w' := by
  have HS := hide hs
  have HT := hide ht
  have l1 := lenSpan_le ⟨s, by omega⟩ a1
  have l2 := distSpan_le ⟨t, by omega⟩
  simp only [] at l1 l2
  obtain ⟨x1, x2, x3⟩ := Fo.take_rest hx
  obtain ⟨y1, y2, y3⟩ := Fo.take_rest hy
  have X2 := hide x2
  have X3 := hide x3
  have Y2 := hide y2
  have Y3 := hide y3
  have NUM := hide (And.intro b1 (And.intro b2 (And.intro b3 (And.intro l1 (And.intro l2 (And.intro x1 y1))))))
  clear hs ht hx hy x2 x3 y2 y3 b1 b2 b3 l1 l2 x1 y1
  have a1' : (257 : Int) ≤ (s : Int) := by omega
  have a2' : (s : Int) ≤ 285 := by omega
  have a3' : (t : Int) ≤ 29 := by omega
  have e1 : ((s : Int) == 256) = false := by simp; omega
  go_enter Tryz.func278, Tryz.ntmps278
  go_wp2_with fail
  go_region_with (go_at_call 313; refine (symbol_ok bc oc c.cs c.ss hc.s1 hc.l1 (fun w' r hf k => (hC w' r _ _ hf (((Kept.refl _ _ _ _).drew).trans k)).1) HS.out h.drew).mono ?_; rintro e w1 ⟨rfl, hf1, k1⟩)
  have kk := ((Kept.refl 5 B [br, bf] w).drew).trans k1
  clear k1
  go_wp2_with fail
  refine (within_int_yes _ _ _ _ a1' a2').mono ?_
  rintro e w' ⟨rfl, rfl⟩
  go_wp2_with fail
  refine (must_yes _).mono ?_
  rintro e w' ⟨rfl, rfl⟩
  go_wp2_with fail
  refine (lengthSpan_ok s a1 a2 _).mono ?_
  rintro e w2 ⟨rfl, o2, rfl⟩
  go_wp2_with fail
  refine (within_ok (Fo.lenSpan s) (by have := NUM.out; omega) (by have := NUM.out; omega) NUM.out.2.2.2.2.2.1 (hf1.alloc o2)).mono ?_
  rintro e w3 ⟨rfl, hf3, k3⟩
  rw [← X3.out] at hf3
  have kk3 := (kk.alloc o2).trans k3
  clear kk k3
  rw [← X2.out]
  go_wp2_with fail
  go_region_with (go_at_call 313; refine (symbol_ok bc (oc + 17) c.cd c.sd hc.s2 hc.l2 (fun w' r hf k => (hC w' r _ _ hf ((kk3.drew).trans k)).2) HT.out hf3.drew).mono ?_; rintro e w4 ⟨rfl, hf4, k4⟩)
  have kk4 := (kk3.drew).trans k4
  clear kk3 k4
  go_wp2_with fail
  refine (within_int_yes _ _ _ _ (by omega) a3').mono ?_
  rintro e w' ⟨rfl, rfl⟩
  go_wp2_with fail
  refine (must_yes _).mono ?_
  rintro e w' ⟨rfl, rfl⟩
  go_wp2_with fail
  refine (distanceSpan_ok t a3 _).mono ?_
  rintro e w5 ⟨rfl, o5, rfl⟩
  go_wp2_with fail
  refine (within_ok (Fo.distSpan t) (by have := NUM.out; omega) (by have := NUM.out; omega) NUM.out.2.2.2.2.2.2 (hf4.alloc o5)).mono ?_
  rintro e w6 ⟨rfl, hf6, k6⟩
  rw [← Y3.out] at hf6
  have kk6 := (kk4.alloc o5).trans k6
  clear kk4 k6
  rw [← Y2.out]
  obtain ⟨p, held, left, hb, hl, hr⟩ := hf6
  have HR := hide hr
  clear hr
  go_wp2_with fail
  refine (again_ok hb ((Fo.lenSpan s).1 + x) ((Fo.distSpan t).1 + y) (by have := NUM.out; omega) NUM.out.1 NUM.out.2.1 NUM.out.2.2.1 hw).mono ?_
  rintro e w7 ⟨rfl, ov', h7, k7⟩
  go_wp2
  go_ret
  exact ⟨rfl, ov', ⟨p, held, left, h7, hl, HR.out⟩, kk6.trans k7⟩
/-- One part that goes through. -/
theorem part_ok (bc oc : Nat) (c : Fo.Codes) (hc : CodesOk c) (hC : Codes4 B br bf bd off cap d most fixed window bc oc c w) {rest rest' : List Bool} {out' : List Nat} {b : Bool} (h : Fl B br bf bd off cap d most fixed w rest window ov out)
    (hw : window ≤ 32768) (hp : Fo.part c window most rest out = .ok (b, rest', out')) :
    Calls Tryz.prog 278 #[.pointer (some ⟨bf, 0, none⟩), .pointer (some ⟨bc, oc, none⟩)] w fun e w' => e = .returned (.bool b) ∧ ∃ ov', Fl B br bf bd off cap d most fixed w' rest' window ov' out' ∧ Kept 5 B [br, bf] w w' := by
  unfold Fo.part at hp
  cases h1 : Fo.sym c.cs c.ss rest with
  | none => rw [h1] at hp; cases hp
  | some x =>
    obtain ⟨s, r1⟩ := x
    rw [h1] at hp; simp only [] at hp
    by_cases c1 : s < 256
    · rw [if_pos c1] at hp
      by_cases c0 : out.length + 1 ≤ most
      · rw [if_pos c0] at hp; cases hp
        exact part_lit_ok bc oc c hc hC h s h1 c1 c0
      · rw [if_neg c0] at hp; cases hp
    rw [if_neg c1] at hp
    by_cases c2 : s = 256
    · rw [if_pos c2] at hp; cases hp; subst c2
      refine (part_end_ok bc oc c hc hC h h1).mono ?_
      rintro e w' ⟨rfl, hf, k⟩
      exact ⟨rfl, ov, hf, k⟩
    rw [if_neg c2] at hp
    by_cases c3 : 285 < s
    · rw [if_pos c3] at hp; cases hp
    rw [if_neg c3] at hp
    cases h2 : Fo.take (Fo.lenSpan s).2 r1 with
    | none => rw [h2] at hp; cases hp
    | some x =>
      obtain ⟨x, r2⟩ := x
      rw [h2] at hp; simp only [] at hp
      cases h3 : Fo.sym c.cd c.sd r2 with
      | none => rw [h3] at hp; cases hp
      | some y =>
        obtain ⟨t, r3⟩ := y
        rw [h3] at hp; simp only [] at hp
        by_cases c4 : 29 < t
        · rw [if_pos c4] at hp; cases hp
        rw [if_neg c4] at hp
        cases h4 : Fo.take (Fo.distSpan t).2 r3 with
        | none => rw [h4] at hp; cases hp
        | some z =>
          obtain ⟨y, r4⟩ := z
          rw [h4] at hp; simp only [] at hp
          by_cases c5 : (Fo.distSpan t).1 + y ≤ out.length ∧ (Fo.distSpan t).1 + y ≤ window
          · rw [if_pos c5] at hp
            by_cases c6 : out.length + ((Fo.lenSpan s).1 + x) ≤ most
            · rw [if_pos c6] at hp; cases hp
              exact part_copy_ok bc oc c hc hC h s x t y h1 (by omega) (by omega) h2 h3 (by omega) h4 c5.1 c5.2 c6 hw
            · rw [if_neg c6] at hp; cases hp
          · rw [if_neg c5] at hp; cases hp
end Go.Proofs.YtgkljcmjnphpeaaGreatDoor
namespace Go.Proofs.YtgkljcmjnphpeaaGreatDoor
open Go.RowKit
variable {B br bf bd off cap : Nat} {d : List Nat} {most : Nat} {fixed : List Value} {w : World} {p held left window : Nat} {ov : Value} {out : List Nat}
/-- How many bits an inflater has still to read: what goes down from part to part. -/
def bitsOf' (br bf : Nat) (n : Nat) (w : World) : Nat := 8 * (n - posOf br w) + (intOf ((w.cell? ⟨bf, 2, none⟩).getD undef)).toNat
theorem Fl.measure {rest : List Bool} (h : Fl B br bf bd off cap d most fixed w rest window ov out) : bitsOf' br bf d.length w = rest.length := by
  obtain ⟨p, held, left, hb, hl, hr⟩ := h
  have := hb.rd.lp
  rw [← hr, bitsLeft, List.length_append, Fo.numBits_length, Fo.bitsOf_length, List.length_drop, bitsOf', hb.rd.posOf, hb.c2]
  simp [intOf]; omega
end Go.Proofs.YtgkljcmjnphpeaaGreatDoor
namespace Go.Proofs.YtgkljcmjnphpeaaGreatDoor
open Go.RowKit
variable {B br bf bd off cap : Nat} {d : List Nat} {most : Nat} {fixed : List Value} {w : World} {p held left window : Nat} {ov : Value} {out : List Nat}
theorem bits8_inj (a b : Nat) (ha : a < 256) (hb : b < 256) (h : Fo.bits8 a = Fo.bits8 b) : a = b := by
  rw [← Fo.val_bits8 a ha, ← Fo.val_bits8 b hb, h]
theorem bitsOf_inj : ∀ (a b : List Nat), a.length = b.length → (∀ i, i < a.length → nth a i < 256) → (∀ i, i < b.length → nth b i < 256) → Fo.bitsOf a = Fo.bitsOf b → a = b
  | [], [], _, _, _, _ => rfl
  | [], _ :: _, h, _, _, _ => by simp at h
  | _ :: _, [], h, _, _, _ => by simp at h
  | x :: a, y :: b, hl, h1, h2, h => by
    rw [Fo.bitsOf_cons, Fo.bitsOf_cons] at h
    have h3 := List.append_inj h rfl
    have e1 : x = y := bits8_inj x y (h1 0 (by simp)) (h2 0 (by simp)) h3.1
    have e2 : a = b := bitsOf_inj a b (by simpa using hl) (fun i hi => h1 (i + 1) (by simpa using hi)) (fun i hi => h2 (i + 1) (by simpa using hi)) h3.2
    rw [e1, e2]
theorem addr_add2 (b o i : Nat) : (⟨b, o, none⟩ : Addr).add i = ⟨b, o + i, none⟩ := by unfold Addr.add; split <;> simp_all
/-- At whole bytes, bytes D ahead: they are the data's. -/
theorem Bi.bytes (h : Bi B br bf bd off cap d most fixed w p held 0 window ov out) (D : List Nat) (hD : ∀ i, i < D.length → nth D i < 256) (rest : List Bool) (hr : Fo.bitsOf (d.drop p) = Fo.bitsOf D ++ rest) :
    p + D.length ≤ d.length ∧ (∀ i, i < D.length → nth d (p + i) = nth D i) ∧ Fo.bitsOf (d.drop (p + D.length)) = rest := by
  have hp := h.rd.lp
  have hl : p + D.length ≤ d.length := by
    have := congrArg List.length hr
    rw [Fo.bitsOf_length, List.length_append, Fo.bitsOf_length, List.length_drop] at this
    omega
  have e : d.drop p = (d.drop p).take D.length ++ d.drop (p + D.length) := by
    rw [← List.drop_drop, List.take_append_drop]
  rw [e, Fo.bitsOf_append] at hr
  have hlen : (Fo.bitsOf ((d.drop p).take D.length)).length = (Fo.bitsOf D).length := by
    rw [Fo.bitsOf_length, Fo.bitsOf_length, List.length_take, List.length_drop]; omega
  have h2 := List.append_inj hr hlen
  have e3 : (d.drop p).take D.length = D := by
    refine bitsOf_inj _ _ (by rw [List.length_take, List.length_drop]; omega) ?_ hD h2.1
    intro i hi
    rw [List.length_take, List.length_drop] at hi
    have := h.rd.byt (p + i) (by omega)
    simpa [nth, List.getElem?_take, List.getElem?_drop, show i < D.length by omega] using this
  refine ⟨hl, ?_, h2.2⟩
  intro i hi
  rw [← e3]
  simp [nth, List.getElem?_take, List.getElem?_drop, hi]
theorem Fl.whole {rest : List Bool} (h : Fl B br bf bd off cap d most fixed w rest window ov out) (h8 : rest.length % 8 = 0) : ∃ p held, Bi B br bf bd off cap d most fixed w p held 0 window ov out ∧ Fo.bitsOf (d.drop p) = rest := by
  obtain ⟨p, held, left, hb, hl, hr⟩ := h
  have : left = 0 := by
    rw [← hr, bitsLeft, List.length_append, Fo.numBits_length, Fo.bitsOf_length] at h8; omega
  subst this
  exact ⟨p, held, hb, by rw [← hr]; simp [bitsLeft, Fo.numBits]⟩
theorem bitsNum_ok (n v : Nat) (hn : n ≤ 16) (hv : v < 2 ^ n) {rest : List Bool} (h : Fl B br bf bd off cap d most fixed w (Fo.numBits n v ++ rest) window ov out) :
    Calls Tryz.prog 221 #[.pointer (some ⟨bf, 0, none⟩), .int .i64 n] w fun e w' => e = .returned (.int .i64 v) ∧ Fl B br bf bd off cap d most fixed w' rest window ov out ∧ Kept 5 B [br, bf] w w' := by
  refine (bits_ok n hn (by simp [Fo.numBits_length]) h).mono ?_
  rintro e w' ⟨rfl, hf, k⟩
  rw [List.drop_left' (Fo.numBits_length n v)] at hf
  rw [List.take_left' (Fo.numBits_length n v), Fo.val_numBits, Nat.mod_eq_of_lt hv]
  exact ⟨rfl, hf, k⟩
set_option maxRecDepth 100000 in
set_option maxHeartbeats 1000000 in
theorem stored_ok (D : List Nat) (hD0 : 0 < D.length) (hD1 : D.length ≤ 65535) (hD : ∀ i, i < D.length → nth D i < 256) {rest rest' : List Bool} (h : Fl B br bf bd off cap d most fixed w rest window ov out)
    (hr : rest.drop (rest.length % 8) = Fo.numBits 16 D.length ++ (Fo.numBits 16 (65535 - D.length) ++ (Fo.bitsOf D ++ rest'))) (h8 : rest'.length % 8 = 0) (ho : out.length + D.length ≤ most) :
    Calls Tryz.prog 222 #[.pointer (some ⟨bf, 0, none⟩)] w fun e w' => e = .returned (.tuple #[]) ∧ ∃ ov', Fl B br bf bd off cap d most fixed w' rest' window ov' (out ++ D) ∧ Kept 5 B [br, bf] w w' := by
  have HR := hide hr
  have H8 := hide h8
  clear hr h8
  have tok : True := trivial
  go_enter Tryz.func222, Tryz.ntmps222
  go_wp2_with fail
  refine (align_ok h).mono ?_
  rintro e w1 ⟨rfl, ⟨p1, held1, hb1, hq1⟩, k1⟩
  rw [HR.out] at hq1
  have hf1 : Fl B br bf bd off cap d most fixed w1 (Fo.numBits 16 D.length ++ (Fo.numBits 16 (65535 - D.length) ++ (Fo.bitsOf D ++ rest'))) window ov out := ⟨p1, held1, 0, hb1, by omega, by rw [← hq1]; simp [bitsLeft, Fo.numBits]⟩
  clear hb1 hq1 h
  go_wp2_with fail
  go_region_with (first | (go_at_call 221; have _t := tok; refine (bitsNum_ok 16 D.length (by omega) (by omega) hf1.drew).mono ?_; rintro e w2 ⟨rfl, hf2, k2⟩; clear tok) | (go_at_call 221; refine (bitsNum_ok 16 (65535 - D.length) (by omega) (by omega) hf2).mono ?_; rintro e w3 ⟨rfl, hf3, k3⟩))
  have kk := (k1.drew.trans k2).trans k3
  clear k1 k2 k3 hf1 hf2
  have e1 : ((65535 - D.length : Nat) : Int) = 65535 - (D.length : Int) := by omega
  rw [e1]
  go_wp2_with fail
  refine (must_yes _).mono ?_
  rintro e w' ⟨rfl, rfl⟩
  obtain ⟨p, held, hb, hq⟩ := hf3.whole (by rw [List.length_append, Fo.bitsOf_length]; have := H8.out; omega)
  obtain ⟨q1, q2, q3⟩ := hb.bytes D hD rest' hq
  have Q2 := hide q2
  have Q3 := hide q3
  clear q2 q3 hq hf3
  have c0 := hb.c0
  go_wp2_with fail
  go_region_with (first | (go_at_call 164; refine (take_ok (hb.rd.drewN 1) D.length hD0 q1).mono ?_; rintro e w4 ⟨rfl, r4, k4⟩; have h4 := hb.rdKept r4 (((Kept.refl _ _ _ _).drewN 1).trans k4); have c4 := h4.c0) | (go_at_call 213; refine (put_ok r4 D ⟨bd, off + p, none⟩ (cap - p) ho (by have := r4.sz; omega) (fun i hi => by rw [addr_add2, ← Q2.out i hi, Nat.add_assoc]; exact r4.dat (p + i) (by omega))).mono ?_; rintro e w5 ⟨rfl, ov5, r5, k5⟩))
  all_goals go_wp2
  all_goals go_end0
  all_goals exact ⟨rfl, ov5, ⟨p + D.length, held, 0, h4.rdKept r5 k5, by omega, by rw [← Q3.out]; simp [bitsLeft, Fo.numBits]⟩, (kk.drewN 1).trans ((k4.trans k5).mono (by simp))⟩
end Go.Proofs.YtgkljcmjnphpeaaGreatDoor
namespace Go.Proofs.YtgkljcmjnphpeaaGreatDoor
open Go.RowKit
variable {B br bf bd off cap : Nat} {d : List Nat} {most : Nat} {fixed : List Value} {w : World} {p held left window : Nat} {ov : Value} {out : List Nat}
def ints (l : List Nat) : List Value := l.map fun x : Nat => .int .i64 (x : Int)
/-- A row of ints in memory. -/
def IntRow (w : World) (g : Nat) (l : List Nat) : Prop := ∃ c fz, w.heap[g]? = some (.cells c 3 fz) ∧ ∀ i, i < l.length → c[i]? = some (.int .i64 (nth l i : Nat))
theorem IntRow.kept {g : Nat} {l : List Nat} {w' : World} {S : List Nat} (h : IntRow w g l) (k : Kept 5 B S w w') (hS : g ∉ S) : IntRow w' g l := by
  obtain ⟨c, fz, hb, hc⟩ := h
  exact ⟨c, fz, k.block g _ hS hb (Or.inr (by intro c' fz' e; simp at e)), hc⟩
theorem IntRow.cell {g : Nat} {l : List Nat} (h : IntRow w g l) (i : Nat) (hi : i < l.length) : w.cell? ⟨g, i, none⟩ = some (.int .i64 (nth l i : Nat)) := by
  obtain ⟨c, fz, hb, hc⟩ := h
  rw [cell_blk hb]; exact hc i hi
/-- The fixed codes as an inflater holds them. -/
structure Fix (w : World) (br bf : Nat) (fixed : List Value) : Prop where
  ex : ∃ g1 c1 g2 c2, fixed = ints Fo.csF ++ (.slice (some ⟨g1, 0, none⟩) Fo.ssF.length c1 :: (ints Fo.cdF ++ [.slice (some ⟨g2, 0, none⟩) Fo.sdF.length c2])) ∧ IntRow w g1 Fo.ssF ∧ IntRow w g2 Fo.sdF ∧ g1 ≠ br ∧ g1 ≠ bf ∧ g2 ≠ br ∧ g2 ≠ bf
theorem csF_len : Fo.csF.length = 16 := by decide +kernel
theorem cdF_len : Fo.cdF.length = 16 := by decide +kernel
theorem fixedOk : CodesOk Fo.fixedC := by
  refine ⟨?_, ?_, ?_, ?_⟩
  · rw [Fo.fixedC_cs, Fo.fixedC_ss]; decide +kernel
  · rw [Fo.fixedC_ss]; decide +kernel
  · rw [Fo.fixedC_cd, Fo.fixedC_sd]; decide +kernel
  · rw [Fo.fixedC_sd]; decide +kernel
theorem ints_get (l : List Nat) (i : Nat) (h : i < l.length) : (ints l)[i]? = some (.int .i64 (nth l i : Nat)) := by
  simp [ints, nth, h]
theorem Fix.codes (h : Fix w br bf fixed) : Codes4 B br bf bd off cap d most fixed window bf 4 Fo.fixedC w := by
  intro w' r ov out hf k
  obtain ⟨g1, c1, g2, c2, he, i1, i2, n1, n2, n3, n4⟩ := h.ex
  obtain ⟨p, held, left, hb, hl, hr⟩ := hf
  have j1 := i1.kept k (by simp [n1, n2])
  have j2 := i2.kept k (by simp [n3, n4])
  have hcell : ∀ i v, fixed[i]? = some v → w'.cell? ⟨bf, 4 + i, none⟩ = some v := by
    intro i v hv
    rw [cell_blk hb.blk, Nat.add_comm 4 i]
    simpa using hv
  have l1 := csF_len
  have l2 := cdF_len
  have li1 : (ints Fo.csF).length = 16 := by simpa [ints] using l1
  have li2 : (ints Fo.cdF).length = 16 := by simpa [ints] using l2
  rw [Fo.fixedC_cs, Fo.fixedC_ss, Fo.fixedC_cd, Fo.fixedC_sd]
  generalize Fo.csF = CS at *
  generalize Fo.ssF = SS at *
  generalize Fo.cdF = CD at *
  generalize Fo.sdF = SD at *
  refine ⟨⟨?_, g1, c1, ?_, j1.cell⟩, ⟨?_, g2, c2, ?_, j2.cell⟩⟩
  · intro i hi
    refine hcell i _ ?_
    rw [he, List.getElem?_append_left (by omega)]; exact ints_get _ _ (by omega)
  · refine hcell 16 _ ?_
    rw [he, List.getElem?_append_right (by omega), li1]; rfl
  · intro i hi
    rw [show 4 + 17 + i = 4 + (17 + i) by omega]
    refine hcell (17 + i) _ ?_
    rw [he, List.getElem?_append_right (by omega), li1, show 17 + i - 16 = i + 1 by omega, List.getElem?_cons_succ, List.getElem?_append_left (by omega)]; exact ints_get _ _ (by omega)
  · rw [show 4 + 17 + 16 = 4 + 33 by omega]
    refine hcell 33 _ ?_
    rw [he, List.getElem?_append_right (by omega), li1, show 33 - 16 = 16 + 1 by omega, List.getElem?_cons_succ, List.getElem?_append_right (by omega), li2]; rfl
end Go.Proofs.YtgkljcmjnphpeaaGreatDoor
namespace Go
open Go.RowKit
theorem setCells_blk (b : Nat) (t : TypeId) (fz : Nat × Nat) : ∀ (vs : List Value) (o : Nat) (w : World) (C : Array Value), w.heap[b]? = some (.cells C t fz) →
    ∃ R : Array Value, (w.setCells b o vs).heap[b]? = some (.cells R t fz) ∧ R.size = C.size ∧ ∀ j, R[j]? = if o ≤ j ∧ j < o + vs.length ∧ j < C.size then vs[j - o]? else C[j]?
  | [], o, w, C, h => ⟨C, h, rfl, fun j => by rw [if_neg (by simp; omega)]⟩
  | v :: vs, o, w, C, h => by
    obtain ⟨R, h1, h2, h3⟩ := setCells_blk b t fz vs (o + 1) (w.setCell ⟨b, o, none⟩ v) (C.setIfInBounds o v) (blk_setCell v h)
    refine ⟨R, h1, by rw [h2]; simp, fun j => ?_⟩
    rw [h3 j, Array.size_setIfInBounds]
    by_cases c1 : o + 1 ≤ j ∧ j < o + 1 + vs.length ∧ j < C.size
    · rw [if_pos c1, if_pos (by simp; omega), show j - o = (j - (o + 1)) + 1 by omega, List.getElem?_cons_succ]
    · rw [if_neg c1]
      by_cases c2 : o = j
      · subst c2
        by_cases c3 : o < C.size
        · rw [if_pos (by simp; omega)]; simp [c3]
        · rw [if_neg (by omega)]; simp [c3]
      · rw [if_neg (by simp; omega), Array.getElem?_setIfInBounds_ne c2]
theorem setCells_whole {w : World} {b : Nat} {t : TypeId} {fz : Nat × Nat} {C : Array Value} {vs : List Value} (h : w.heap[b]? = some (.cells C t fz)) (hs : C.size = vs.length) : (w.setCells b 0 vs).heap[b]? = some (.cells vs.toArray t fz) := by
  obtain ⟨R, h1, h2, h3⟩ := setCells_blk b t fz vs 0 w C h
  rw [h1]
  congr 2
  apply Array.ext (by simp [h2, hs])
  intro i hi1 hi2
  have := h3 i
  rw [if_pos ⟨by omega, by omega, by omega⟩, Nat.sub_zero] at this
  have h4 : i < vs.length := by simpa using hi2
  rw [Array.getElem?_eq_getElem hi1, List.getElem?_eq_getElem h4] at this
  simpa using this
theorem setCells_ne (b : Nat) {k : Nat} (hk : k ≠ b) : ∀ (vs : List Value) (o : Nat) (w : World), (w.setCells b o vs).heap[k]? = w.heap[k]?
  | [], _, _ => rfl
  | v :: vs, o, w => by
    show ((w.setCell ⟨b, o, none⟩ v).setCells b (o + 1) vs).heap[k]? = _
    rw [setCells_ne b hk vs (o + 1), blk_setCell_ne _ hk]
theorem setCells_below (b B : Nat) (hb : B ≤ b) : ∀ (vs : List Value) (o : Nat) (a w : World), Below B a w → Below B a (w.setCells b o vs)
  | [], _, _, _, h => h
  | v :: vs, o, a, w, h => setCells_below b B hb vs (o + 1) a _ (h.setCell hb v)
theorem setCells_size (b : Nat) : ∀ (vs : List Value) (o : Nat) (w : World), (w.setCells b o vs).heap.size = w.heap.size
  | [], _, _ => rfl
  | v :: vs, o, w => by
    show ((w.setCell ⟨b, o, none⟩ v).setCells b (o + 1) vs).heap.size = _
    rw [setCells_size b vs (o + 1)]; simp
end Go
