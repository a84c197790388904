/- Decoders that read part after part: what they come to, out of what each part comes to. -/
import Derived.Test.YtgkljcmjnphpeaaDoorWh
import Derived.Test.YtgkljcmjnphpeaaDoorOrd
import Derived.Test.YtgkljcmjnphpeaaDoorFace
import Derived.Test.YtgkljcmjnphpeaaDoorHex
set_option linter.unusedVariables false
set_option linter.unusedSimpArgs false
/- Decoders that read part after part: what they come to, out of what each part comes to. -/
namespace Go.Proofs.YtgkljcmjnphpeaaDoor
open Go.RowKit
variable {B br bd off cap : Nat} {d : List Nat} {most : Nat} {w : World} {p : Nat} {ov : Value} {out : List Nat}

/-- Given up with an error. -/
def gaveUp (n : Int) : Ending := .panicked [{ v := .iface 26 (.int .i64 n), recovered := false }]

theorem room_no (h : Rd B br bd off cap d most w p ov out) (n : Nat) (hn : n ≤ 1000000) (ho : most < out.length + n) :
    Calls Tryd.prog 74 #[.pointer (some ⟨br, 0, none⟩), .int .i64 n] w fun e w' => e = gaveUp 6 ∧ ∃ q, w' = w.drewN q := by
  unfold gaveUp
  have c2 := h.c2
  have c3 := h.c3
  have b1 := h.lm
  have b2 := h.lo
  obtain ⟨ao, oc, hov⟩ := own_slice h.own
  rw [hov] at c2
  clear hov
  go_enter Tryd.func74, Tryd.ntmps74
  go_wp2_with fail
  go_quiet ((go_at_call 10; exact Calls.quiet_of_same (within_int_no _ _ _ _ (Or.inr (by omega)))))
  go_wp2
  exact ⟨rfl, rfl, _, rfl⟩

theorem put_no (h : Rd B br bd off cap d most w p ov out) (n : Nat) (a : Option Addr) (c : Nat) (hn : n ≤ 1000000) (ho : most < out.length + n) :
    Calls Tryd.prog 50 #[.pointer (some ⟨br, 0, none⟩), .slice a n c] w fun e w' => e = gaveUp 6 ∧ ∃ q, w' = w.drewN q := by
  have HR := hide (room_no h n hn ho)
  go_enter Tryd.func50, Tryd.ntmps50
  go_wp2_with fail
  refine HR.out.mono ?_
  rintro e w1 ⟨rfl, q, rfl⟩
  exact ⟨rfl, rfl, q, rfl⟩

theorem must_nob (b : Bool) (hb : b = false) (w : World) : Calls Tryd.prog 39 #[.bool b] w fun e w' => e = .panicked [{ v := .iface 26 (.int .i64 5), recovered := false }] ∧ w' = w := by
  subst hb; exact must_no w

/-- What the test of take reads. -/
def Stk (br : Nat) (sl : Value) (p : Nat) (_L : Array Bool) (W : World) : Prop := W.cell? ⟨br, 0, none⟩ = some sl ∧ W.cell? ⟨br, 1, none⟩ = some (.int .i64 p)

set_option maxRecDepth 100000 in
set_option maxHeartbeats 1000000 in
theorem take_no (h : Rd B br bd off cap d most w p ov out) (n : Nat) (hn : n ≤ 1000000) (hp : d.length < p + n) :
    Calls Tryd.prog 40 #[.pointer (some ⟨br, 0, none⟩), .int .i64 n] w fun e w' => e = gaveUp 5 ∧ ∃ q, w' = w.drewN q := by
  unfold gaveUp
  have c0 := h.c0
  have c1 := h.c1
  have b1 := h.cp
  have b2 := h.lc
  have b3 := h.lp
  have tw : Hid (decide ((n : Int) ≤ IntKind.i64.wrap ((d.length : Int) - (p : Int))) = false) := by
    unfold Hid
    rw [IntKind.wrap_i64]; simp; omega
  go_enter Tryd.func40, Tryd.ntmps40
  go_wp2_with fail
  refine wp_region_T (Stk br (.slice (some ⟨bd, off, none⟩) d.length cap) p) (by kernel_rfl) ?_
  intro hD
  have hS : Stk br (.slice (some ⟨bd, off, none⟩) d.length cap) p (Array.replicate 13 false) w.drew := ⟨c0, c1⟩
  refine wpAnyT_take (i := 0) (v := ?_) rfl (by kernel_rfl) (by kernel_rfl) (by kernel_rfl) (fun _ _ _ h => h) (fun _ _ h => h) (fun _ _ h => h) hD (Or.inl ⟨by rfl, ?_⟩) hS ?_
  rotate_left
  · intro W hW; obtain ⟨_, _, _, f0, f1⟩ := hW; go_simp; try (with_reducible rfl)
  clear hD hS; intro hD hS; (try simp only [Act.put, List.setIfInBounds_toArray, List.set_cons_zero, List.set_cons_succ])
  refine wpAnyT_take (i := 1) (v := ?_) rfl (by kernel_rfl) (by kernel_rfl) (by kernel_rfl) (fun _ _ _ h => h) (fun _ _ h => h) (fun _ _ h => h) hD (Or.inl ⟨by rfl, ?_⟩) hS ?_
  rotate_left
  · intro W hW; obtain ⟨_, _, _, f0, f1⟩ := hW; go_simp; try (with_reducible rfl)
  clear hD hS; intro hD hS; (try simp only [Act.put, List.setIfInBounds_toArray, List.set_cons_zero, List.set_cons_succ])
  refine wpAnyT_take (i := 2) (v := ?_) rfl (by kernel_rfl) (by kernel_rfl) (by kernel_rfl) (fun _ _ _ h => h) (fun _ _ h => h) (fun _ _ h => h) hD (Or.inl ⟨by rfl, ?_⟩) hS ?_
  rotate_left
  · intro W hW; obtain ⟨_, _, _, f0, f1⟩ := hW; go_simp; try (with_reducible rfl)
  clear hD hS; intro hD hS; (try simp only [Act.put, List.setIfInBounds_toArray, List.set_cons_zero, List.set_cons_succ])
  refine wpAnyT_take (i := 3) (v := ?_) rfl (by kernel_rfl) (by kernel_rfl) (by kernel_rfl) (fun _ _ _ h => h) (fun _ _ h => h) (fun _ _ h => h) hD (Or.inl ⟨by rfl, ?_⟩) hS ?_
  rotate_left
  · intro W hW; obtain ⟨_, _, _, f0, f1⟩ := hW; go_simp; try (with_reducible rfl)
  clear hD hS; intro hD hS; (try simp only [Act.put, List.setIfInBounds_toArray, List.set_cons_zero, List.set_cons_succ])
  refine wpAnyT_take (i := 4) (v := ?_) rfl (by kernel_rfl) (by kernel_rfl) (by kernel_rfl) (fun _ _ _ h => h) (fun _ _ h => h) (fun _ _ h => h) hD (Or.inl ⟨by rfl, ?_⟩) hS ?_
  rotate_left
  · intro W hW; obtain ⟨_, _, _, f0, f1⟩ := hW; go_simp; try (with_reducible rfl)
  clear hD hS; intro hD hS; (try simp only [Act.put, List.setIfInBounds_toArray, List.set_cons_zero, List.set_cons_succ])
  refine wpAnyT_take (i := 5) (v := ?_) rfl (by kernel_rfl) (by kernel_rfl) (by kernel_rfl) (fun _ _ _ h => h) (fun _ _ h => h) (fun _ _ h => h) hD (Or.inl ⟨by rfl, ?_⟩) hS ?_
  rotate_left
  · intro W hW; obtain ⟨_, _, _, f0, f1⟩ := hW; go_simp; try (with_reducible rfl)
  clear hD hS; intro hD hS; (try simp only [Act.put, List.setIfInBounds_toArray, List.set_cons_zero, List.set_cons_succ])
  refine wpAnyT_take (i := 6) (v := ?_) rfl (by kernel_rfl) (by kernel_rfl) (by kernel_rfl) (fun _ _ _ h => h) (fun _ _ h => h) (fun _ _ h => h) hD (Or.inl ⟨by rfl, ?_⟩) hS ?_
  rotate_left
  · intro W hW; obtain ⟨_, _, _, f0, f1⟩ := hW; go_simp; try (with_reducible rfl)
  clear hD hS; intro hD hS; (try simp only [Act.put, List.setIfInBounds_toArray, List.set_cons_zero, List.set_cons_succ])
  refine wpAnyT_take (i := 7) (v := ?_) rfl (by kernel_rfl) (by kernel_rfl) (by kernel_rfl) (fun _ _ _ h => h) (fun _ _ h => h) (fun _ _ h => h) hD (Or.inl ⟨by rfl, ?_⟩) hS ?_
  rotate_left
  · intro W hW; obtain ⟨_, _, _, f0, f1⟩ := hW; go_simp; try (with_reducible rfl)
  clear hD hS; intro hD hS; (try simp only [Act.put, List.setIfInBounds_toArray, List.set_cons_zero, List.set_cons_succ])
  refine wpAnyT_take (i := 8) (v := ?_) rfl (by kernel_rfl) (by kernel_rfl) (by kernel_rfl) (fun _ _ _ h => h) (fun _ _ h => h) (fun _ _ h => h) hD (Or.inl ⟨by rfl, ?_⟩) hS ?_
  rotate_left
  · intro W hW; obtain ⟨_, _, _, f0, f1⟩ := hW; go_simp; try (with_reducible rfl)
  clear hD hS; intro hD hS; (try simp only [Act.put, List.setIfInBounds_toArray, List.set_cons_zero, List.set_cons_succ])
  refine wpAnyT_take (i := 9) (v := ?_) rfl (by kernel_rfl) (by kernel_rfl) (by kernel_rfl) (fun _ _ _ h => h) (fun _ _ h => h) (fun _ _ h => h) hD (Or.inl ⟨by rfl, ?_⟩) hS ?_
  rotate_left
  · intro W hW; obtain ⟨_, _, _, f0, f1⟩ := hW; go_simp; try (with_reducible rfl)
  clear hD hS; intro hD hS; (try simp only [Act.put, List.setIfInBounds_toArray, List.set_cons_zero, List.set_cons_succ])
  refine wpAnyT_take (i := 10) (v := ?_) rfl (by kernel_rfl) (by kernel_rfl) (by kernel_rfl) (fun _ _ _ h => h) (fun _ _ h => h) (fun _ _ h => h) hD (Or.inl ⟨by rfl, ?_⟩) hS ?_
  rotate_left
  · intro W hW; obtain ⟨_, _, _, f0, f1⟩ := hW; go_simp; try (with_reducible rfl)
  clear hD hS; intro hD hS; (try simp only [Act.put, List.setIfInBounds_toArray, List.set_cons_zero, List.set_cons_succ])
  refine wpAnyT_take (i := 11) (v := ?_) rfl (by kernel_rfl) (by kernel_rfl) (by kernel_rfl) (fun _ _ _ h => h) (fun _ _ h => h) (fun _ _ h => h) hD (Or.inl ⟨by rfl, ?_⟩) hS ?_
  rotate_left
  · intro W hW; obtain ⟨_, _, _, f0, f1⟩ := hW; go_simp; try (with_reducible rfl)
  clear hD hS; intro hD hS; (try simp only [Act.put, List.setIfInBounds_toArray, List.set_cons_zero, List.set_cons_succ])
  refine wpAnyT_one (i := 12) (by kernel_rfl) rfl hD (fun K' hK => ?_)
  go_simp
  refine (must_nob _ tw.out _).mono ?_
  rintro e w7 ⟨rfl, rfl⟩
  exact ⟨rfl, rfl, 1, rfl⟩
end Go.Proofs.YtgkljcmjnphpeaaDoor
namespace Go.Proofs.YtgkljcmjnphpeaaDoor
open Go.RowKit
variable {B br bd off cap : Nat} {d : List Nat} {most : Nat} {w : World} {p : Nat} {ov : Value} {out : List Nat}

/-- One part read: whether another may follow. -/
def PGo (F B br bd off cap : Nat) (d : List Nat) (most p : Nat) (out : List Nat) (b : Bool) (p' : Nat) (out' : List Nat) : Prop :=
  ∀ (w : World) (ov : Value), Rd B br bd off cap d most w p ov out → Calls Tryd.prog F #[.pointer (some ⟨br, 0, none⟩)] w fun e w' => e = .returned (.bool b) ∧ ∃ ov', Rd B br bd off cap d most w' p' ov' out' ∧ Kept 5 B [br] w w'
/-- One part at which it gives up. -/
def PNo (F B br bd off cap : Nat) (d : List Nat) (most p : Nat) (out : List Nat) (n : Int) : Prop :=
  ∀ (w : World) (ov : Value), Rd B br bd off cap d most w p ov out → Calls Tryd.prog F #[.pointer (some ⟨br, 0, none⟩)] w fun e w' => e = gaveUp n ∧ Kept 5 B [br] w w'

/-- Parts that all go through. -/
structure PChain (F B br bd off cap : Nat) (d : List Nat) (most K : Nat) (pos : Nat → Nat) (outs : Nat → List Nat) : Prop where
  go : ∀ k, k < K → PGo F B br bd off cap d most (pos k) (outs k) true (pos (k + 1)) (outs (k + 1))
  up : ∀ k, k < K → pos k < pos (k + 1)

theorem decodeA85_inv (I : Nat → List Nat → Prop) {o : List Nat} (hs : ∀ q out, I q out → out.length ≤ most → (∃ q' out', q < q' ∧ I q' out' ∧ PGo 33 B br bd off cap d most q out true q' out') ∨ PGo 33 B br bd off cap d most q out false d.length o) (h0 : I p out) (h : Rd B br bd off cap d most w p ov out) :
    Calls Tryd.prog 20 #[.pointer (some ⟨br, 0, none⟩)] w fun e w' => e = .returned (.tuple #[]) ∧ ∃ ov', Rd B br bd off cap d most w' d.length ov' o ∧ Kept 5 B [br] w w' := by
  have HS := hide hs
  clear hs
  go_enter Tryd.func20, Tryd.ntmps20
  go_wp2
  go_loopw [2] (fun _ wr => ∃ (q : Nat) (o : List Nat) (ov' : Value), Hid (I q o) ∧ Rd B br bd off cap d most wr q ov' o ∧ Kept 5 B [br] w wr) (fun _ wr => d.length - posOf br wr)
  case atStart => exact ⟨p, out, ov, h0, h, Kept.refl _ _ _ _⟩
  case round =>
    obtain ⟨q, o, ov', HI, r, kk⟩ := hrel
    have mr := hide r.posOf
    rcases HS.out q o HI.out r.lo with ⟨q', o', hup, hI', hg⟩ | hg
    · have HG := hide hg
      have HI' := hide hI'
      clear hg hI'
      go_wp2_with fail
      refine (HG.out _ _ r).mono ?_
      rintro e w1 ⟨rfl, ov2, r2, k2⟩
      have m2 := hide r2.posOf
      have lp := r2.lp
      go_wp2
      go_roundw
      case rel => exact ⟨q', o', ov2, HI', r2, kk.trans k2⟩
      case measure => rw [mr.out, m2.out]; omega
    · have HG := hide hg
      clear hg
      go_wp2_with fail
      refine (HG.out _ _ r).mono ?_
      rintro e w1 ⟨rfl, ov2, r2, k2⟩
      go_wp2_with fail
      refine (skipWhite_end r2).mono ?_
      rintro e w2 ⟨rfl, r3, k3⟩
      go_wp2_with fail
      refine (end_ok r3).mono ?_
      rintro e w3 ⟨rfl, q, rfl⟩
      go_wp2
      go_end0
      exact ⟨rfl, ov2, r3.drewN q, ((kk.trans k2).trans k3).drewN q⟩

theorem decodeA85_inv_fails (I : Nat → List Nat → Prop) {n : Int} (hs : ∀ q out, I q out → out.length ≤ most → (∃ q' out', q < q' ∧ I q' out' ∧ PGo 33 B br bd off cap d most q out true q' out') ∨ PNo 33 B br bd off cap d most q out n) (h0 : I p out) (h : Rd B br bd off cap d most w p ov out) :
    Calls Tryd.prog 20 #[.pointer (some ⟨br, 0, none⟩)] w fun e w' => e = gaveUp n ∧ Kept 5 B [br] w w' := by
  have HS := hide hs
  clear hs
  go_enter Tryd.func20, Tryd.ntmps20
  go_wp2
  go_loopw [2] (fun _ wr => ∃ (q : Nat) (o : List Nat) (ov' : Value), Hid (I q o) ∧ Rd B br bd off cap d most wr q ov' o ∧ Kept 5 B [br] w wr) (fun _ wr => d.length - posOf br wr)
  case atStart => exact ⟨p, out, ov, h0, h, Kept.refl _ _ _ _⟩
  case round =>
    obtain ⟨q, o, ov', HI, r, kk⟩ := hrel
    have mr := hide r.posOf
    rcases HS.out q o HI.out r.lo with ⟨q', o', hup, hI', hg⟩ | hg
    · have HG := hide hg
      have HI' := hide hI'
      clear hg hI'
      go_wp2_with fail
      refine (HG.out _ _ r).mono ?_
      rintro e w1 ⟨rfl, ov2, r2, k2⟩
      have m2 := hide r2.posOf
      have lp := r2.lp
      go_wp2
      go_roundw
      case rel => exact ⟨q', o', ov2, HI', r2, kk.trans k2⟩
      case measure => rw [mr.out, m2.out]; omega
    · have HG := hide hg
      clear hg
      go_wp2_with fail
      refine (HG.out _ _ r).mono ?_
      rintro e w1 ⟨rfl, k2⟩
      exact ⟨rfl, rfl, kk.trans k2⟩

theorem decodeRun_inv (I : Nat → List Nat → Prop) {o : List Nat} (hs : ∀ q out, I q out → out.length ≤ most → (∃ q' out', q < q' ∧ I q' out' ∧ PGo 34 B br bd off cap d most q out true q' out') ∨ PGo 34 B br bd off cap d most q out false d.length o) (h0 : I p out) (h : Rd B br bd off cap d most w p ov out) :
    Calls Tryd.prog 21 #[.pointer (some ⟨br, 0, none⟩)] w fun e w' => e = .returned (.tuple #[]) ∧ ∃ ov', Rd B br bd off cap d most w' d.length ov' o ∧ Kept 5 B [br] w w' := by
  have HS := hide hs
  clear hs
  go_enter Tryd.func21, Tryd.ntmps21
  go_wp2
  go_loopw [2] (fun _ wr => ∃ (q : Nat) (o : List Nat) (ov' : Value), Hid (I q o) ∧ Rd B br bd off cap d most wr q ov' o ∧ Kept 5 B [br] w wr) (fun _ wr => d.length - posOf br wr)
  case atStart => exact ⟨p, out, ov, h0, h, Kept.refl _ _ _ _⟩
  case round =>
    obtain ⟨q, o, ov', HI, r, kk⟩ := hrel
    have mr := hide r.posOf
    rcases HS.out q o HI.out r.lo with ⟨q', o', hup, hI', hg⟩ | hg
    · have HG := hide hg
      have HI' := hide hI'
      clear hg hI'
      go_wp2_with fail
      refine (HG.out _ _ r).mono ?_
      rintro e w1 ⟨rfl, ov2, r2, k2⟩
      have m2 := hide r2.posOf
      have lp := r2.lp
      go_wp2
      go_roundw
      case rel => exact ⟨q', o', ov2, HI', r2, kk.trans k2⟩
      case measure => rw [mr.out, m2.out]; omega
    · have HG := hide hg
      clear hg
      go_wp2_with fail
      refine (HG.out _ _ r).mono ?_
      rintro e w1 ⟨rfl, ov2, r2, k2⟩
      have r3 := r2
      have k3 := Kept.refl 5 B [br] w1
      go_wp2_with fail
      refine (end_ok r3).mono ?_
      rintro e w3 ⟨rfl, q, rfl⟩
      go_wp2
      go_end0
      exact ⟨rfl, ov2, r3.drewN q, ((kk.trans k2).trans k3).drewN q⟩

theorem decodeRun_inv_fails (I : Nat → List Nat → Prop) {n : Int} (hs : ∀ q out, I q out → out.length ≤ most → (∃ q' out', q < q' ∧ I q' out' ∧ PGo 34 B br bd off cap d most q out true q' out') ∨ PNo 34 B br bd off cap d most q out n) (h0 : I p out) (h : Rd B br bd off cap d most w p ov out) :
    Calls Tryd.prog 21 #[.pointer (some ⟨br, 0, none⟩)] w fun e w' => e = gaveUp n ∧ Kept 5 B [br] w w' := by
  have HS := hide hs
  clear hs
  go_enter Tryd.func21, Tryd.ntmps21
  go_wp2
  go_loopw [2] (fun _ wr => ∃ (q : Nat) (o : List Nat) (ov' : Value), Hid (I q o) ∧ Rd B br bd off cap d most wr q ov' o ∧ Kept 5 B [br] w wr) (fun _ wr => d.length - posOf br wr)
  case atStart => exact ⟨p, out, ov, h0, h, Kept.refl _ _ _ _⟩
  case round =>
    obtain ⟨q, o, ov', HI, r, kk⟩ := hrel
    have mr := hide r.posOf
    rcases HS.out q o HI.out r.lo with ⟨q', o', hup, hI', hg⟩ | hg
    · have HG := hide hg
      have HI' := hide hI'
      clear hg hI'
      go_wp2_with fail
      refine (HG.out _ _ r).mono ?_
      rintro e w1 ⟨rfl, ov2, r2, k2⟩
      have m2 := hide r2.posOf
      have lp := r2.lp
      go_wp2
      go_roundw
      case rel => exact ⟨q', o', ov2, HI', r2, kk.trans k2⟩
      case measure => rw [mr.out, m2.out]; omega
    · have HG := hide hg
      clear hg
      go_wp2_with fail
      refine (HG.out _ _ r).mono ?_
      rintro e w1 ⟨rfl, k2⟩
      exact ⟨rfl, rfl, kk.trans k2⟩

theorem decodeHex_chain {K : Nat} {pos : Nat → Nat} {outs : Nat → List Nat} (hc : PChain 30 B br bd off cap d most K pos outs) {o : List Nat} (hf : PGo 30 B br bd off cap d most (pos K) (outs K) false d.length o) (h : Rd B br bd off cap d most w (pos 0) ov (outs 0)) :
    Calls Tryd.prog 19 #[.pointer (some ⟨br, 0, none⟩)] w fun e w' => e = .returned (.tuple #[]) ∧ ∃ ov', Rd B br bd off cap d most w' d.length ov' o ∧ Kept 5 B [br] w w' := by
  have CH := hide hc
  have HF := hide hf
  clear hc hf
  go_enter Tryd.func19, Tryd.ntmps19
  go_wp2
  go_loopw [3] (fun _ wr => ∃ (k : Nat) (ov' : Value), k ≤ K ∧ Rd B br bd off cap d most wr (pos k) ov' (outs k) ∧ Kept 5 B [br] w wr) (fun _ wr => d.length - posOf br wr)
  case atStart => exact ⟨0, ov, Nat.zero_le _, h, Kept.refl _ _ _ _⟩
  case round =>
    obtain ⟨k, ov', hk, r, kk⟩ := hrel
    have mr := hide r.posOf
    by_cases hlt : k < K
    · have HG := hide (CH.out.go k hlt)
      have hup := CH.out.up k hlt
      go_wp2_with fail
      refine (HG.out _ _ r).mono ?_
      rintro e w1 ⟨rfl, ov2, r2, k2⟩
      have m2 := hide r2.posOf
      have lp := r2.lp
      go_wp2
      go_roundw
      case rel => exact ⟨k + 1, ov2, by omega, r2, kk.trans k2⟩
      case measure => rw [mr.out, m2.out]; omega
    · obtain rfl : k = K := by omega
      go_wp2_with fail
      refine (HF.out _ _ r).mono ?_
      rintro e w1 ⟨rfl, ov2, r2, k2⟩
      go_wp2_with fail
      refine (skipWhite_end r2).mono ?_
      rintro e w2 ⟨rfl, r3, k3⟩
      go_wp2_with fail
      refine (end_ok r3).mono ?_
      rintro e w3 ⟨rfl, q, rfl⟩
      go_wp2
      go_end0
      exact ⟨rfl, ov2, r3.drewN q, ((kk.trans k2).trans k3).drewN q⟩

theorem decodeHex_fails {K : Nat} {pos : Nat → Nat} {outs : Nat → List Nat} (hc : PChain 30 B br bd off cap d most K pos outs) {n : Int} (hf : PNo 30 B br bd off cap d most (pos K) (outs K) n) (h : Rd B br bd off cap d most w (pos 0) ov (outs 0)) :
    Calls Tryd.prog 19 #[.pointer (some ⟨br, 0, none⟩)] w fun e w' => e = gaveUp n ∧ Kept 5 B [br] w w' := by
  have CH := hide hc
  have HF := hide hf
  clear hc hf
  go_enter Tryd.func19, Tryd.ntmps19
  go_wp2
  go_loopw [3] (fun _ wr => ∃ (k : Nat) (ov' : Value), k ≤ K ∧ Rd B br bd off cap d most wr (pos k) ov' (outs k) ∧ Kept 5 B [br] w wr) (fun _ wr => d.length - posOf br wr)
  case atStart => exact ⟨0, ov, Nat.zero_le _, h, Kept.refl _ _ _ _⟩
  case round =>
    obtain ⟨k, ov', hk, r, kk⟩ := hrel
    have mr := hide r.posOf
    by_cases hlt : k < K
    · have HG := hide (CH.out.go k hlt)
      have hup := CH.out.up k hlt
      go_wp2_with fail
      refine (HG.out _ _ r).mono ?_
      rintro e w1 ⟨rfl, ov2, r2, k2⟩
      have m2 := hide r2.posOf
      have lp := r2.lp
      go_wp2
      go_roundw
      case rel => exact ⟨k + 1, ov2, by omega, r2, kk.trans k2⟩
      case measure => rw [mr.out, m2.out]; omega
    · obtain rfl : k = K := by omega
      go_wp2_with fail
      refine (HF.out _ _ r).mono ?_
      rintro e w1 ⟨rfl, k2⟩
      exact ⟨rfl, rfl, kk.trans k2⟩

theorem fdec1_ok' {l : List Nat} (R : Rd w.heap.size w.heap.size bd off cap d most (w.alloc (.cells #[.slice (some ⟨bd, off, none⟩) d.length cap, .int .i64 0, .slice none 0 0, .int .i64 most] 41 (0, 0))) 0 (.slice none 0 0) [])
    (hc : ∀ (w : World) (br B : Nat) (ov : Value), Rd B br bd off cap d most w 0 ov [] → Calls Tryd.prog 19 #[.pointer (some ⟨br, 0, none⟩)] w fun e w' => e = .returned (.tuple #[]) ∧ ∃ ov', Rd B br bd off cap d most w' d.length ov' l ∧ Kept 5 B [br] w w') :
    Calls Tryd.prog 14 #[.int .i64 1, .slice (some ⟨bd, off, none⟩) d.length cap, .int .i64 most] w fun e w' => ∃ v, e = .returned v ∧ w'.ownsRow w.heap.size 5 1 v l.length (l.map fun x : Nat => .int .u8 (x : Int)) ∧ Below w.heap.size w w' := by
  have HC := hide (hc _ _ _ _ R)
  clear R hc
  go_enter Tryd.func14, Tryd.ntmps14
  go_wp2_with fail
  refine HC.out.mono ?_
  rintro e w1 ⟨rfl, ov, r1, k1⟩
  have c2 := r1.c2
  go_wp2
  go_ret
  exact ⟨ov, rfl, r1.own, keptBelowNew k1⟩

theorem fdec1_no {n : Int} (R : Rd w.heap.size w.heap.size bd off cap d most (w.alloc (.cells #[.slice (some ⟨bd, off, none⟩) d.length cap, .int .i64 0, .slice none 0 0, .int .i64 most] 41 (0, 0))) 0 (.slice none 0 0) [])
    (hc : ∀ (w : World) (br B : Nat) (ov : Value), Rd B br bd off cap d most w 0 ov [] → Calls Tryd.prog 19 #[.pointer (some ⟨br, 0, none⟩)] w fun e w' => e = gaveUp n ∧ Kept 5 B [br] w w') :
    Calls Tryd.prog 14 #[.int .i64 1, .slice (some ⟨bd, off, none⟩) d.length cap, .int .i64 most] w fun e w' => e = gaveUp n ∧ Below w.heap.size w w' := by
  have HC := hide (hc _ _ _ _ R)
  clear R hc
  go_enter Tryd.func14, Tryd.ntmps14
  go_wp2_with fail
  refine HC.out.mono ?_
  rintro e w1 ⟨rfl, k1⟩
  exact ⟨rfl, rfl, keptBelowNew k1⟩

theorem fdec2_ok' {l : List Nat} (R : Rd w.heap.size w.heap.size bd off cap d most (w.alloc (.cells #[.slice (some ⟨bd, off, none⟩) d.length cap, .int .i64 0, .slice none 0 0, .int .i64 most] 41 (0, 0))) 0 (.slice none 0 0) [])
    (hc : ∀ (w : World) (br B : Nat) (ov : Value), Rd B br bd off cap d most w 0 ov [] → Calls Tryd.prog 20 #[.pointer (some ⟨br, 0, none⟩)] w fun e w' => e = .returned (.tuple #[]) ∧ ∃ ov', Rd B br bd off cap d most w' d.length ov' l ∧ Kept 5 B [br] w w') :
    Calls Tryd.prog 14 #[.int .i64 2, .slice (some ⟨bd, off, none⟩) d.length cap, .int .i64 most] w fun e w' => ∃ v, e = .returned v ∧ w'.ownsRow w.heap.size 5 1 v l.length (l.map fun x : Nat => .int .u8 (x : Int)) ∧ Below w.heap.size w w' := by
  have HC := hide (hc _ _ _ _ R)
  clear R hc
  go_enter Tryd.func14, Tryd.ntmps14
  go_wp2_with fail
  refine HC.out.mono ?_
  rintro e w1 ⟨rfl, ov, r1, k1⟩
  have c2 := r1.c2
  go_wp2
  go_ret
  exact ⟨ov, rfl, r1.own, keptBelowNew k1⟩

theorem fdec2_no {n : Int} (R : Rd w.heap.size w.heap.size bd off cap d most (w.alloc (.cells #[.slice (some ⟨bd, off, none⟩) d.length cap, .int .i64 0, .slice none 0 0, .int .i64 most] 41 (0, 0))) 0 (.slice none 0 0) [])
    (hc : ∀ (w : World) (br B : Nat) (ov : Value), Rd B br bd off cap d most w 0 ov [] → Calls Tryd.prog 20 #[.pointer (some ⟨br, 0, none⟩)] w fun e w' => e = gaveUp n ∧ Kept 5 B [br] w w') :
    Calls Tryd.prog 14 #[.int .i64 2, .slice (some ⟨bd, off, none⟩) d.length cap, .int .i64 most] w fun e w' => e = gaveUp n ∧ Below w.heap.size w w' := by
  have HC := hide (hc _ _ _ _ R)
  clear R hc
  go_enter Tryd.func14, Tryd.ntmps14
  go_wp2_with fail
  refine HC.out.mono ?_
  rintro e w1 ⟨rfl, k1⟩
  exact ⟨rfl, rfl, keptBelowNew k1⟩

theorem fdec3_ok' {l : List Nat} (R : Rd w.heap.size w.heap.size bd off cap d most (w.alloc (.cells #[.slice (some ⟨bd, off, none⟩) d.length cap, .int .i64 0, .slice none 0 0, .int .i64 most] 41 (0, 0))) 0 (.slice none 0 0) [])
    (hc : ∀ (w : World) (br B : Nat) (ov : Value), Rd B br bd off cap d most w 0 ov [] → Calls Tryd.prog 21 #[.pointer (some ⟨br, 0, none⟩)] w fun e w' => e = .returned (.tuple #[]) ∧ ∃ ov', Rd B br bd off cap d most w' d.length ov' l ∧ Kept 5 B [br] w w') :
    Calls Tryd.prog 14 #[.int .i64 3, .slice (some ⟨bd, off, none⟩) d.length cap, .int .i64 most] w fun e w' => ∃ v, e = .returned v ∧ w'.ownsRow w.heap.size 5 1 v l.length (l.map fun x : Nat => .int .u8 (x : Int)) ∧ Below w.heap.size w w' := by
  have HC := hide (hc _ _ _ _ R)
  clear R hc
  go_enter Tryd.func14, Tryd.ntmps14
  go_wp2_with fail
  refine HC.out.mono ?_
  rintro e w1 ⟨rfl, ov, r1, k1⟩
  have c2 := r1.c2
  go_wp2
  go_ret
  exact ⟨ov, rfl, r1.own, keptBelowNew k1⟩

theorem fdec3_no {n : Int} (R : Rd w.heap.size w.heap.size bd off cap d most (w.alloc (.cells #[.slice (some ⟨bd, off, none⟩) d.length cap, .int .i64 0, .slice none 0 0, .int .i64 most] 41 (0, 0))) 0 (.slice none 0 0) [])
    (hc : ∀ (w : World) (br B : Nat) (ov : Value), Rd B br bd off cap d most w 0 ov [] → Calls Tryd.prog 21 #[.pointer (some ⟨br, 0, none⟩)] w fun e w' => e = gaveUp n ∧ Kept 5 B [br] w w') :
    Calls Tryd.prog 14 #[.int .i64 3, .slice (some ⟨bd, off, none⟩) d.length cap, .int .i64 most] w fun e w' => e = gaveUp n ∧ Below w.heap.size w w' := by
  have HC := hide (hc _ _ _ _ R)
  clear R hc
  go_enter Tryd.func14, Tryd.ntmps14
  go_wp2_with fail
  refine HC.out.mono ?_
  rintro e w1 ⟨rfl, k1⟩
  exact ⟨rfl, rfl, keptBelowNew k1⟩

theorem fdec4_ok' {l : List Nat} (R : Rd w.heap.size w.heap.size bd off cap d most (w.alloc (.cells #[.slice (some ⟨bd, off, none⟩) d.length cap, .int .i64 0, .slice none 0 0, .int .i64 most] 41 (0, 0))) 0 (.slice none 0 0) [])
    (hc : ∀ (w : World) (br B : Nat) (ov : Value), Rd B br bd off cap d most w 0 ov [] → Calls Tryd.prog 22 #[.pointer (some ⟨br, 0, none⟩)] w fun e w' => e = .returned (.tuple #[]) ∧ ∃ ov', Rd B br bd off cap d most w' d.length ov' l ∧ Kept 5 B [br] w w') :
    Calls Tryd.prog 14 #[.int .i64 4, .slice (some ⟨bd, off, none⟩) d.length cap, .int .i64 most] w fun e w' => ∃ v, e = .returned v ∧ w'.ownsRow w.heap.size 5 1 v l.length (l.map fun x : Nat => .int .u8 (x : Int)) ∧ Below w.heap.size w w' := by
  have HC := hide (hc _ _ _ _ R)
  clear R hc
  go_enter Tryd.func14, Tryd.ntmps14
  go_wp2_with fail
  refine HC.out.mono ?_
  rintro e w1 ⟨rfl, ov, r1, k1⟩
  have c2 := r1.c2
  go_wp2
  go_ret
  exact ⟨ov, rfl, r1.own, keptBelowNew k1⟩

theorem fdec4_no {n : Int} (R : Rd w.heap.size w.heap.size bd off cap d most (w.alloc (.cells #[.slice (some ⟨bd, off, none⟩) d.length cap, .int .i64 0, .slice none 0 0, .int .i64 most] 41 (0, 0))) 0 (.slice none 0 0) [])
    (hc : ∀ (w : World) (br B : Nat) (ov : Value), Rd B br bd off cap d most w 0 ov [] → Calls Tryd.prog 22 #[.pointer (some ⟨br, 0, none⟩)] w fun e w' => e = gaveUp n ∧ Kept 5 B [br] w w') :
    Calls Tryd.prog 14 #[.int .i64 4, .slice (some ⟨bd, off, none⟩) d.length cap, .int .i64 most] w fun e w' => e = gaveUp n ∧ Below w.heap.size w w' := by
  have HC := hide (hc _ _ _ _ R)
  clear R hc
  go_enter Tryd.func14, Tryd.ntmps14
  go_wp2_with fail
  refine HC.out.mono ?_
  rintro e w1 ⟨rfl, k1⟩
  exact ⟨rfl, rfl, keptBelowNew k1⟩

end Go.Proofs.YtgkljcmjnphpeaaDoor
/- The filter of hexadecimal digits, read: too little room, no end. -/
namespace Go.Proofs.YtgkljcmjnphpeaaDoor
open Go.RowKit
variable {B br bd off cap : Nat} {d : List Nat} {most : Nat} {w : World} {p : Nat} {ov : Value} {out : List Nat}

theorem next_no (h : Rd B br bd off cap d most w d.length ov out) :
    Calls Tryd.prog 52 #[.pointer (some ⟨br, 0, none⟩)] w fun e w' => e = gaveUp 5 ∧ Kept 5 B [br] w w' := by
  have HT := hide (take_no h 1 (by omega) (by omega))
  go_enter Tryd.func52, Tryd.ntmps52
  go_wp2_with fail
  refine HT.out.mono ?_
  rintro e w1 ⟨rfl, q, rfl⟩
  exact ⟨rfl, rfl, (Kept.refl _ _ _ _).drewN q⟩
theorem nextInk_no (h : Rd B br bd off cap d most w d.length ov out) :
    Calls Tryd.prog 48 #[.pointer (some ⟨br, 0, none⟩)] w fun e w' => e = gaveUp 5 ∧ Kept 5 B [br] w w' := by
  go_enter Tryd.func48, Tryd.ntmps48
  go_wp2_with fail
  refine (skipWhite_end h).mono ?_
  rintro e w1 ⟨rfl, r1, k1⟩
  go_wp2_with fail
  refine (next_no r1).mono ?_
  rintro e w2 ⟨rfl, k2⟩
  exact ⟨rfl, rfl, k1.trans k2⟩

theorem hexPair_cut : PNo 30 B br bd off cap d most d.length out 5 := by
  intro w ov h
  go_enter Tryd.func30, Tryd.ntmps30
  go_wp2_with fail
  refine (nextInk_no h).mono ?_
  rintro e w1 ⟨rfl, k1⟩
  exact ⟨rfl, rfl, k1⟩

theorem hexPair_cap (a b : Nat) (ha : a < 16) (hb : b < 16) (hp : p + 1 < d.length) (h1 : nth d p = Fo.hexDig a) (h2 : nth d (p + 1) = Fo.hexDig b) (ho : most < out.length + 1) : PNo 30 B br bd off cap d most p out 6 := by
  intro w ov h
  have n1 : whiteB (nth d p) = false := by rw [h1]; exact Fo.white_dig a ha
  have n2 : whiteB (nth d (p + 1)) = false := by rw [h2]; exact Fo.white_dig b hb
  have v1 : Hid (Fo.hexVal (nth d p) = some a) := by rw [h1]; exact Fo.hexVal_dig a ha
  have v2 : Hid (Fo.hexVal (nth d (p + 1)) = some b) := by rw [h2]; exact Fo.hexVal_dig b hb
  have e1 : ((nth d p : Int) == 62) = false := by rw [h1]; have := Fo.hexDig_ne a ha; simp; omega
  have e2 : ((nth d (p + 1) : Int) == 62) = false := by rw [h2]; have := Fo.hexDig_ne b hb; simp; omega
  clear h1 h2
  go_enter Tryd.func30, Tryd.ntmps30
  go_wp2_with fail
  refine (nextInk_ok h (by omega) n1).mono ?_
  rintro e w1 ⟨rfl, r1, k1⟩
  go_wp2_with fail
  refine (hexValue_ok _ _ _ v1.out).mono ?_
  rintro e w' ⟨rfl, rfl⟩
  go_wp2_with fail
  refine (nextInk_ok r1 hp n2).mono ?_
  rintro e w2 ⟨rfl, r2, k2⟩
  go_wp2_with fail
  refine (hexValue_ok _ _ _ v2.out).mono ?_
  rintro e w' ⟨rfl, rfl⟩
  go_wp2_with fail
  refine (put_no (r2.alloc _) 1 _ 1 (by omega) ho).mono ?_
  rintro e w3 ⟨rfl, q, rfl⟩
  exact ⟨rfl, rfl, ((k1.trans k2).alloc _).drewN q⟩

theorem hexPair_go (a b : Nat) (ha : a < 16) (hb : b < 16) (hp : p + 1 < d.length) (h1 : nth d p = Fo.hexDig a) (h2 : nth d (p + 1) = Fo.hexDig b) (ho : out.length + 1 ≤ most) : PGo 30 B br bd off cap d most p out true (p + 2) (out ++ [16 * a + b]) :=
  fun w ov h => hexPair_ok h a b ha hb hp h1 h2 ho

/-- Digits one behind the other. -/
theorem hex_digits {l t : List Nat} (hd : d = Fo.hexOf l ++ t) (k : Nat) (hk : k < l.length) : nth d (2 * k) = Fo.hexDig (nth l k / 16) ∧ nth d (2 * k + 1) = Fo.hexDig (nth l k % 16) := by
  have e : l = l.take k ++ (nth l k :: l.drop (k + 1)) := by
    have : nth l k = l[k] := by simp [nth, hk]
    rw [this, ← List.drop_eq_getElem_cons hk, List.take_append_drop]
  have e2 : d = Fo.hexOf (l.take k) ++ (Fo.hexDig (nth l k / 16) :: Fo.hexDig (nth l k % 16) :: (Fo.hexOf (l.drop (k + 1)) ++ t)) := by
    rw [hd]; conv => lhs; rw [e]
    rw [Fo.hexOf_append, Fo.hexOf_cons]; simp
  have e3 : (Fo.hexOf (l.take k)).length = 2 * k := by rw [Fo.hexOf_length, List.length_take]; omega
  constructor
  · rw [e2]; simp [nth, List.getElem?_append_right, e3]
  · rw [e2]; simp [nth, List.getElem?_append_right, e3]

theorem hex_chain {l t : List Nat} (hl : ∀ i, i < l.length → nth l i < 256) (hd : d = Fo.hexOf l ++ t) (K : Nat) (hK : K ≤ l.length) (hm : K ≤ most) : PChain 30 B br bd off cap d most K (fun k => 2 * k) (fun k => l.take k) := by
  have hdl : d.length = 2 * l.length + t.length := by rw [hd]; simp [Fo.hexOf_length]
  refine ⟨fun k hk => ?_, fun k hk => by show 2 * k < 2 * (k + 1); omega⟩
  obtain ⟨n1, n2⟩ := hex_digits hd k (by omega)
  have hb := hl k (by omega)
  have hlen : (l.take k).length = k := by rw [List.length_take]; omega
  have := hexPair_go (B := B) (br := br) (bd := bd) (off := off) (cap := cap) (most := most) (out := l.take k) (nth l k / 16) (nth l k % 16) (by omega) (by omega) (by omega) n1 n2 (by omega)
  have e1 : l.take k ++ [16 * (nth l k / 16) + nth l k % 16] = l.take (k + 1) := by
    rw [Nat.div_add_mod, List.take_succ_eq_append_getElem (by omega)]; simp [nth, show k < l.length by omega]
  rw [e1] at this
  exact this

theorem decodeHex_cap (l : List Nat) (hl : ∀ i, i < l.length → nth l i < 256) (hd : d = Fo.hexOf l ++ [62]) (h : Rd B br bd off cap d most w 0 ov []) (hm : most < l.length) :
    Calls Tryd.prog 19 #[.pointer (some ⟨br, 0, none⟩)] w fun e w' => e = gaveUp 6 ∧ Kept 5 B [br] w w' := by
  have hdl : d.length = 2 * l.length + 1 := by rw [hd]; simp [Fo.hexOf_length]
  obtain ⟨n1, n2⟩ := hex_digits hd most hm
  have hb := hl most hm
  have hlen : (l.take most).length = most := by rw [List.length_take]; omega
  exact decodeHex_fails (hex_chain hl hd most (by omega) (Nat.le_refl _)) (hexPair_cap (nth l most / 16) (nth l most % 16) (by omega) (by omega) (by omega) n1 n2 (by omega)) h

theorem decodeHex_cut (l : List Nat) (hl : ∀ i, i < l.length → nth l i < 256) (hd : d = Fo.hexOf l) (h : Rd B br bd off cap d most w 0 ov []) (hm : l.length ≤ most) :
    Calls Tryd.prog 19 #[.pointer (some ⟨br, 0, none⟩)] w fun e w' => e = gaveUp 5 ∧ Kept 5 B [br] w w' := by
  have hdl : d.length = 2 * l.length := by rw [hd]; simp [Fo.hexOf_length]
  refine decodeHex_fails (K := l.length) (pos := fun k => 2 * k) (outs := fun k => l.take k) (hex_chain hl (by rw [hd, List.append_nil]) l.length (Nat.le_refl _) hm) ?_ h
  show PNo 30 B br bd off cap d most (2 * l.length) (l.take l.length) 5
  rw [← hdl]
  exact hexPair_cut
end Go.Proofs.YtgkljcmjnphpeaaDoor
