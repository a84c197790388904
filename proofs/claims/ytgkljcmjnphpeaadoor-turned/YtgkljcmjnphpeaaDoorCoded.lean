/- A block of symbols: inflater.coded. -/
import Derived.Test.YtgkljcmjnphpeaaDoorPart
namespace Go.Proofs.YtgkljcmjnphpeaaDoor
open Go.RowKit
variable {B br bf bd off cap : Nat} {d : List Nat} {most : Nat} {fixed : List Value} {w : World} {p held left window : Nat} {ov : Value} {out : List Nat}

/-- How many bits an inflater has still to read: what goes down from part to part. -/
def bitsOf' (br bf : Nat) (n : Nat) (w : World) : Nat := 8 * (n - posOf br w) + (intOf ((w.cell? ⟨bf, 2, none⟩).getD undef)).toNat

theorem Fl.measure {rest : List Bool} (h : Fl B br bf bd off cap d most fixed w rest window ov out) : bitsOf' br bf d.length w = rest.length := by
  obtain ⟨p, held, left, hb, hl, hr⟩ := h
  have := hb.rd.lp
  rw [← hr, bitsLeft, List.length_append, Fo.numBits_length, Fo.bitsOf_length, List.length_drop, bitsOf', hb.rd.posOf, hb.c2]
  simp [intOf]; omega

theorem coded_ok (bc oc : Nat) (c : Fo.Codes) (hc : CodesOk c) (hC : Codes4 B br bf bd off cap d most fixed window bc oc c w) {rest rest' : List Bool} {out' : List Nat} (h : Fl B br bf bd off cap d most fixed w rest window ov out)
    (hw : window ≤ 32768) (hp : Fo.PartsTo c window most rest out (.ok (rest', out'))) :
    Calls Tryd.prog 61 #[.pointer (some ⟨bf, 0, none⟩), .pointer (some ⟨bc, oc, none⟩)] w fun e w' => e = .returned (.tuple #[]) ∧ ∃ ov', Fl B br bf bd off cap d most fixed w' rest' window ov' out' ∧ Kept 5 B [br, bf] w w' := by
  go_enter Tryd.func61, Tryd.ntmps61
  go_wp2
  go_loopw [6] (fun _ wr => ∃ (r : List Bool) (o : List Nat) (ov' : Value), Fl B br bf bd off cap d most fixed wr r window ov' o ∧ Hid (Fo.PartsTo c window most r o (.ok (rest', out'))) ∧ Kept 5 B [br, bf] w wr) (fun _ wr => bitsOf' br bf d.length wr)
  case atStart => exact ⟨rest, out, ov, h, hp, Kept.refl _ _ _ _⟩
  case round =>
    obtain ⟨r, o, ov', hf, HP, kk⟩ := hrel
    have hm := hide hf.measure
    have hp1 := HP.out
    generalize hres : (Except.ok (rest', out') : Except Nat (List Bool × List Nat)) = res at hp1
    cases hp1 with
    | err he => cases hres
    | stop he =>
      cases hres
      go_wp2_with fail
      refine (part_ok bc oc c hc (hC.kept kk) hf hw he).mono ?_
      rintro e w1 ⟨rfl, ov2, hf2, k2⟩
      go_wp2
      go_end0
      exact ⟨rfl, ov2, hf2, kk.trans k2⟩
    | more he hp2 =>
      subst hres
      have HP2 := hide hp2
      have hsh := Fo.part_shorter he
      have HE := hide he
      clear hp2 he
      go_wp2_with fail
      refine (part_ok bc oc c hc (hC.kept kk) hf hw HE.out).mono ?_
      rintro e w1 ⟨rfl, ov2, hf2, k2⟩
      have hm2 := hide hf2.measure
      go_wp2
      go_roundw
      case rel => exact ⟨_, _, ov2, hf2, HP2, kk.trans k2⟩
      case measure => rw [hm.out, hm2.out]; exact hsh
end Go.Proofs.YtgkljcmjnphpeaaDoor
