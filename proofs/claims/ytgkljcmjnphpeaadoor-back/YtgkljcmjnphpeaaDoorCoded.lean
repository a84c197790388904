/- A block of symbols: inflater.coded. -/
import Derived.Test.YtgkljcmjnphpeaaDoorAgain
set_option linter.unusedVariables false
set_option linter.unusedSimpArgs false
namespace Go.Proofs.YtgkljcmjnphpeaaDoor
open Go.RowKit
variable {B br bf bd off cap : Nat} {d : List Nat} {most : Nat} {fixed : List Value} {w : World} {p held left window : Nat} {ov : Value} {out : List Nat}

/-- The codes that a block goes by stand where bc, oc says, whatever the reading of it does. -/
def Codes4 (B br bf bd off cap : Nat) (d : List Nat) (most : Nat) (fixed : List Value) (window : Nat) (bc oc : Nat) (c : Fo.Codes) (w : World) : Prop :=
  ∀ w' r ov out, Fl B br bf bd off cap d most fixed w' r window ov out → Kept 5 B [br, bf] w w' → Cd w' bc oc c.cs c.ss ∧ Cd w' bc (oc + 17) c.cd c.sd

theorem Codes4.kept {bc oc : Nat} {c : Fo.Codes} {w' : World} (h : Codes4 B br bf bd off cap d most fixed window bc oc c w) (k : Kept 5 B [br, bf] w w') : Codes4 B br bf bd off cap d most fixed window bc oc c w' :=
  fun w'' r ov out hf kk => h w'' r ov out hf (k.trans kk)

structure CodesOk (c : Fo.Codes) : Prop where
  s1 : psum c.cs 15 ≤ c.ss.length
  l1 : c.ss.length ≤ 1000
  s2 : psum c.cd 15 ≤ c.sd.length
  l2 : c.sd.length ≤ 1000

theorem part_end_ok (bc oc : Nat) (c : Fo.Codes) (hc : CodesOk c) (hC : Codes4 B br bf bd off cap d most fixed window bc oc c w) {rest rest' : List Bool} (h : Fl B br bf bd off cap d most fixed w rest window ov out)
    (hs : Fo.sym c.cs c.ss rest = some (256, rest')) :
    Calls Tryd.prog 77 #[.pointer (some ⟨bf, 0, none⟩), .pointer (some ⟨bc, oc, none⟩)] w fun e w' => e = .returned (.bool false) ∧ Fl B br bf bd off cap d most fixed w' rest' window ov out ∧ Kept 5 B [br, bf] w w' := by
  have HS := hide hs
  clear hs
  go_enter Tryd.func77, Tryd.ntmps77
  go_wp2_with fail
  go_region_with (go_at_call 83; refine (symbol_ok bc oc c.cs c.ss hc.s1 hc.l1 (fun w' r hf k => (hC w' r _ _ hf (((Kept.refl _ _ _ _).drew).trans k)).1) HS.out h.drew).mono ?_; rintro e w1 ⟨rfl, hf1, k1⟩)
  go_wp2
  go_ret
  exact ⟨rfl, hf1, ((Kept.refl _ _ _ _).drew).trans k1⟩

theorem part_lit_ok (bc oc : Nat) (c : Fo.Codes) (hc : CodesOk c) (hC : Codes4 B br bf bd off cap d most fixed window bc oc c w) {rest rest' : List Bool} (h : Fl B br bf bd off cap d most fixed w rest window ov out)
    (s : Nat) (hs : Fo.sym c.cs c.ss rest = some (s, rest')) (h1 : s < 256) (ho : out.length + 1 ≤ most) :
    Calls Tryd.prog 77 #[.pointer (some ⟨bf, 0, none⟩), .pointer (some ⟨bc, oc, none⟩)] w fun e w' => e = .returned (.bool true) ∧ ∃ ov', Fl B br bf bd off cap d most fixed w' rest' window ov' (out ++ [s]) ∧ Kept 5 B [br, bf] w w' := by
  have HS := hide hs
  clear hs
  go_enter Tryd.func77, Tryd.ntmps77
  go_wp2_with fail
  go_region_with (go_at_call 83; refine (symbol_ok bc oc c.cs c.ss hc.s1 hc.l1 (fun w' r hf k => (hC w' r _ _ hf (((Kept.refl _ _ _ _).drew).trans k)).1) HS.out h.drew).mono ?_; rintro e w1 ⟨rfl, hf1, k1⟩)
  obtain ⟨p, held, left, hb, hl, hr⟩ := hf1
  have c0 := hb.c0
  have HR := hide hr
  clear hr
  have h1' : (s : Int) < 256 := by omega
  go_wp2_with fail
  refine (put1_ok hb.rd s _ ?_ ho).mono ?_
  · first | rfl | omega
  rintro e w2 ⟨rfl, ov', r2, k2⟩
  go_wp2
  go_ret
  exact ⟨rfl, ov', ⟨p, held, left, hb.rdKept r2 k2, hl, HR.out⟩, (((Kept.refl _ _ _ _).drew).trans k1).trans (k2.mono (by simp))⟩

theorem lenSpan_le : ∀ s : Fin 286, 257 ≤ s.val → (Fo.lenSpan s.val).2 ≤ 5 ∧ (Fo.lenSpan s.val).1 ≤ 258 := by decide +kernel
theorem distSpan_le : ∀ s : Fin 30, (Fo.distSpan s.val).2 ≤ 13 ∧ (Fo.distSpan s.val).1 ≤ 24577 ∧ 1 ≤ (Fo.distSpan s.val).1 := by decide +kernel

set_option maxRecDepth 100000 in
set_option maxHeartbeats 1000000 in
theorem part_copy_ok (bc oc : Nat) (c : Fo.Codes) (hc : CodesOk c) (hC : Codes4 B br bf bd off cap d most fixed window bc oc c w) {rest r1 r2 r3 r4 : List Bool} (h : Fl B br bf bd off cap d most fixed w rest window ov out)
    (s x t y : Nat) (hs : Fo.sym c.cs c.ss rest = some (s, r1)) (a1 : 257 ≤ s) (a2 : s ≤ 285) (hx : Fo.take (Fo.lenSpan s).2 r1 = some (x, r2)) (ht : Fo.sym c.cd c.sd r2 = some (t, r3)) (a3 : t ≤ 29)
    (hy : Fo.take (Fo.distSpan t).2 r3 = some (y, r4)) (b1 : (Fo.distSpan t).1 + y ≤ out.length) (b2 : (Fo.distSpan t).1 + y ≤ window) (b3 : out.length + ((Fo.lenSpan s).1 + x) ≤ most) (hw : window ≤ 32768) :
    Calls Tryd.prog 77 #[.pointer (some ⟨bf, 0, none⟩), .pointer (some ⟨bc, oc, none⟩)] w fun e w' => e = .returned (.bool true) ∧ ∃ ov', Fl B br bf bd off cap d most fixed w' r4 window ov' (Fo.copy ((Fo.distSpan t).1 + y) ((Fo.lenSpan s).1 + x) out) ∧ Kept 5 B [br, bf] w w' := by
  have HS := hide hs
  have HT := hide ht
  have l1 := lenSpan_le ⟨s, by omega⟩ a1
  have l2 := distSpan_le ⟨t, by omega⟩
  simp only [] at l1 l2
  obtain ⟨x1, x2, x3⟩ := Fo.take_rest hx
  obtain ⟨y1, y2, y3⟩ := Fo.take_rest hy
  have X2 := hide x2
  have X3 := hide x3
  have Y2 := hide y2
  have Y3 := hide y3
  have NUM := hide (And.intro b1 (And.intro b2 (And.intro b3 (And.intro l1 (And.intro l2 (And.intro x1 y1))))))
  clear hs ht hx hy x2 x3 y2 y3 b1 b2 b3 l1 l2 x1 y1
  have a1' : (257 : Int) ≤ (s : Int) := by omega
  have a2' : (s : Int) ≤ 285 := by omega
  have a3' : (t : Int) ≤ 29 := by omega
  have e1 : ((s : Int) == 256) = false := by simp; omega
  go_enter Tryd.func77, Tryd.ntmps77
  go_wp2_with fail
  go_region_with (go_at_call 83; refine (symbol_ok bc oc c.cs c.ss hc.s1 hc.l1 (fun w' r hf k => (hC w' r _ _ hf (((Kept.refl _ _ _ _).drew).trans k)).1) HS.out h.drew).mono ?_; rintro e w1 ⟨rfl, hf1, k1⟩)
  have kk := ((Kept.refl 5 B [br, bf] w).drew).trans k1
  clear k1
  go_wp2_with fail
  refine (within_int_yes _ _ _ _ a1' a2').mono ?_
  rintro e w' ⟨rfl, rfl⟩
  go_wp2_with fail
  refine (must_yes _).mono ?_
  rintro e w' ⟨rfl, rfl⟩
  go_wp2_with fail
  refine (lengthSpan_ok s a1 a2 _).mono ?_
  rintro e w2 ⟨rfl, o2, rfl⟩
  go_wp2_with fail
  refine (within_ok (Fo.lenSpan s) (by have := NUM.out; omega) (by have := NUM.out; omega) NUM.out.2.2.2.2.2.1 (hf1.alloc o2)).mono ?_
  rintro e w3 ⟨rfl, hf3, k3⟩
  rw [← X3.out] at hf3
  have kk3 := (kk.alloc o2).trans k3
  clear kk k3
  rw [← X2.out]
  go_wp2_with fail
  go_region_with (go_at_call 83; refine (symbol_ok bc (oc + 17) c.cd c.sd hc.s2 hc.l2 (fun w' r hf k => (hC w' r _ _ hf ((kk3.drew).trans k)).2) HT.out hf3.drew).mono ?_; rintro e w4 ⟨rfl, hf4, k4⟩)
  have kk4 := (kk3.drew).trans k4
  clear kk3 k4
  go_wp2_with fail
  refine (within_int_yes _ _ _ _ (by omega) a3').mono ?_
  rintro e w' ⟨rfl, rfl⟩
  go_wp2_with fail
  refine (must_yes _).mono ?_
  rintro e w' ⟨rfl, rfl⟩
  go_wp2_with fail
  refine (distanceSpan_ok t a3 _).mono ?_
  rintro e w5 ⟨rfl, o5, rfl⟩
  go_wp2_with fail
  refine (within_ok (Fo.distSpan t) (by have := NUM.out; omega) (by have := NUM.out; omega) NUM.out.2.2.2.2.2.2 (hf4.alloc o5)).mono ?_
  rintro e w6 ⟨rfl, hf6, k6⟩
  rw [← Y3.out] at hf6
  have kk6 := (kk4.alloc o5).trans k6
  clear kk4 k6
  rw [← Y2.out]
  obtain ⟨p, held, left, hb, hl, hr⟩ := hf6
  have HR := hide hr
  clear hr
  go_wp2_with fail
  refine (again_ok hb ((Fo.lenSpan s).1 + x) ((Fo.distSpan t).1 + y) (by have := NUM.out; omega) NUM.out.1 NUM.out.2.1 NUM.out.2.2.1 hw).mono ?_
  rintro e w7 ⟨rfl, ov', h7, k7⟩
  go_wp2
  go_ret
  exact ⟨rfl, ov', ⟨p, held, left, h7, hl, HR.out⟩, kk6.trans k7⟩

/-- One part that goes through. -/
theorem part_ok (bc oc : Nat) (c : Fo.Codes) (hc : CodesOk c) (hC : Codes4 B br bf bd off cap d most fixed window bc oc c w) {rest rest' : List Bool} {out' : List Nat} {b : Bool} (h : Fl B br bf bd off cap d most fixed w rest window ov out)
    (hw : window ≤ 32768) (hp : Fo.part c window most rest out = .ok (b, rest', out')) :
    Calls Tryd.prog 77 #[.pointer (some ⟨bf, 0, none⟩), .pointer (some ⟨bc, oc, none⟩)] w fun e w' => e = .returned (.bool b) ∧ ∃ ov', Fl B br bf bd off cap d most fixed w' rest' window ov' out' ∧ Kept 5 B [br, bf] w w' := by
  unfold Fo.part at hp
  cases h1 : Fo.sym c.cs c.ss rest with
  | none => rw [h1] at hp; cases hp
  | some x =>
    obtain ⟨s, r1⟩ := x
    rw [h1] at hp; simp only [] at hp
    by_cases c1 : s < 256
    · rw [if_pos c1] at hp
      by_cases c0 : out.length + 1 ≤ most
      · rw [if_pos c0] at hp; cases hp
        exact part_lit_ok bc oc c hc hC h s h1 c1 c0
      · rw [if_neg c0] at hp; cases hp
    rw [if_neg c1] at hp
    by_cases c2 : s = 256
    · rw [if_pos c2] at hp; cases hp; subst c2
      refine (part_end_ok bc oc c hc hC h h1).mono ?_
      rintro e w' ⟨rfl, hf, k⟩
      exact ⟨rfl, ov, hf, k⟩
    rw [if_neg c2] at hp
    by_cases c3 : 285 < s
    · rw [if_pos c3] at hp; cases hp
    rw [if_neg c3] at hp
    cases h2 : Fo.take (Fo.lenSpan s).2 r1 with
    | none => rw [h2] at hp; cases hp
    | some x =>
      obtain ⟨x, r2⟩ := x
      rw [h2] at hp; simp only [] at hp
      cases h3 : Fo.sym c.cd c.sd r2 with
      | none => rw [h3] at hp; cases hp
      | some y =>
        obtain ⟨t, r3⟩ := y
        rw [h3] at hp; simp only [] at hp
        by_cases c4 : 29 < t
        · rw [if_pos c4] at hp; cases hp
        rw [if_neg c4] at hp
        cases h4 : Fo.take (Fo.distSpan t).2 r3 with
        | none => rw [h4] at hp; cases hp
        | some z =>
          obtain ⟨y, r4⟩ := z
          rw [h4] at hp; simp only [] at hp
          by_cases c5 : (Fo.distSpan t).1 + y ≤ out.length ∧ (Fo.distSpan t).1 + y ≤ window
          · rw [if_pos c5] at hp
            by_cases c6 : out.length + ((Fo.lenSpan s).1 + x) ≤ most
            · rw [if_pos c6] at hp; cases hp
              exact part_copy_ok bc oc c hc hC h s x t y h1 (by omega) (by omega) h2 h3 (by omega) h4 c5.1 c5.2 c6 hw
            · rw [if_neg c6] at hp; cases hp
          · rw [if_neg c5] at hp; cases hp
end Go.Proofs.YtgkljcmjnphpeaaDoor
namespace Go.Proofs.YtgkljcmjnphpeaaDoor
open Go.RowKit
variable {B br bf bd off cap : Nat} {d : List Nat} {most : Nat} {fixed : List Value} {w : World} {p held left window : Nat} {ov : Value} {out : List Nat}

/-- How many bits an inflater has still to read: what goes down from part to part. -/
def bitsOf' (br bf : Nat) (n : Nat) (w : World) : Nat := 8 * (n - posOf br w) + (intOf ((w.cell? ⟨bf, 2, none⟩).getD undef)).toNat

theorem Fl.measure {rest : List Bool} (h : Fl B br bf bd off cap d most fixed w rest window ov out) : bitsOf' br bf d.length w = rest.length := by
  obtain ⟨p, held, left, hb, hl, hr⟩ := h
  have := hb.rd.lp
  rw [← hr, bitsLeft, List.length_append, Fo.numBits_length, Fo.bitsOf_length, List.length_drop, bitsOf', hb.rd.posOf, hb.c2]
  simp [intOf]; omega

theorem coded_ok (bc oc : Nat) (c : Fo.Codes) (hc : CodesOk c) (hC : Codes4 B br bf bd off cap d most fixed window bc oc c w) {rest rest' : List Bool} {out' : List Nat} (h : Fl B br bf bd off cap d most fixed w rest window ov out)
    (hw : window ≤ 32768) (hp : Fo.PartsTo c window most rest out (.ok (rest', out'))) :
    Calls Tryd.prog 61 #[.pointer (some ⟨bf, 0, none⟩), .pointer (some ⟨bc, oc, none⟩)] w fun e w' => e = .returned (.tuple #[]) ∧ ∃ ov', Fl B br bf bd off cap d most fixed w' rest' window ov' out' ∧ Kept 5 B [br, bf] w w' := by
  go_enter Tryd.func61, Tryd.ntmps61
  go_wp2
  go_loopw [6] (fun _ wr => ∃ (r : List Bool) (o : List Nat) (ov' : Value), Fl B br bf bd off cap d most fixed wr r window ov' o ∧ Hid (Fo.PartsTo c window most r o (.ok (rest', out'))) ∧ Kept 5 B [br, bf] w wr) (fun _ wr => bitsOf' br bf d.length wr)
  case atStart => exact ⟨rest, out, ov, h, hp, Kept.refl _ _ _ _⟩
  case round =>
    obtain ⟨r, o, ov', hf, HP, kk⟩ := hrel
    have hm := hide hf.measure
    rcases HP.out.parted with ⟨e1, he, hres⟩ | ⟨r1, o1, he, hres⟩ | ⟨r1, o1, he, hp2⟩
    · cases hres
    · cases hres
      go_wp2_with fail
      refine (part_ok bc oc c hc (hC.kept kk) hf hw he).mono ?_
      rintro e w1 ⟨rfl, ov2, hf2, k2⟩
      go_wp2
      go_end0
      exact ⟨rfl, ov2, hf2, kk.trans k2⟩
    · have HP2 := hide hp2
      have hsh := Fo.part_shorter he
      have HE := hide he
      clear hp2 he
      go_wp2_with fail
      refine (part_ok bc oc c hc (hC.kept kk) hf hw HE.out).mono ?_
      rintro e w1 ⟨rfl, ov2, hf2, k2⟩
      have hm2 := hide hf2.measure
      go_wp2
      go_roundw
      case rel => exact ⟨_, _, ov2, hf2, HP2, kk.trans k2⟩
      case measure => rw [hm.out, hm2.out]; exact hsh
end Go.Proofs.YtgkljcmjnphpeaaDoor
