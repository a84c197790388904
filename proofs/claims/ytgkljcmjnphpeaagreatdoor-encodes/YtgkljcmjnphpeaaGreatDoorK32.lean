/- Decoders at every input: white, the end, the parts one behind another. -/
import Derived.Test.YtgkljcmjnphpeaaGreatDoorK31
import Derived.Test.YtgkljcmjnphpeaaGreatDoorK07
set_option linter.unusedVariables false
set_option linter.unusedSimpArgs false
namespace Go.Proofs.YtgkljcmjnphpeaaGreatDoor
open Go.RowKit
variable {B br bd off cap : Nat} {d : List Nat} {most : Nat} {w : World} {p : Nat} {ov : Value} {out : List Nat}
theorem skipWhite_any (h : Rd B br bd off cap d most w p ov out) :
    Calls Tryz.prog 155 #[.pointer (some ⟨br, 0, none⟩)] w fun e w' => e = .returned (.tuple #[]) ∧ Rd B br bd off cap d most w' (skipW d p) ov out ∧ Kept 5 B [br] w w' :=
  skipWhite_of h (skipW d p) (skipW_le h.lp) (skip_any (h.drewN 1))
theorem nextInk_at (h : Rd B br bd off cap d most w p ov out) (hp : skipW d p < d.length) :
    Calls Tryz.prog 211 #[.pointer (some ⟨br, 0, none⟩)] w fun e w' => e = .returned (.int .u8 (nth d (skipW d p) : Nat)) ∧ Rd B br bd off cap d most w' (skipW d p + 1) ov out ∧ Kept 5 B [br] w w' := by
  go_enter Tryz.func211, Tryz.ntmps211
  go_wp2_with (first | (go_at_call 155; refine (skipWhite_any h).mono ?_; rintro e w1 ⟨rfl, h1, k1⟩) | (go_at_call 214; refine (next_ok h1 hp).mono ?_; rintro e w2 ⟨rfl, h2, k2⟩))
  go_ret
  exact ⟨rfl, h2, k1.trans k2⟩
theorem nextInk_none (h : Rd B br bd off cap d most w p ov out) (hp : d.length ≤ skipW d p) :
    Calls Tryz.prog 211 #[.pointer (some ⟨br, 0, none⟩)] w fun e w' => e = gaveUp 5 ∧ Kept 5 B [br] w w' := by
  have hE : skipW d p = d.length := Nat.le_antisymm (skipW_le h.lp) hp
  have HS := hide (skipWhite_any h)
  rw [hE] at HS
  clear hE hp
  go_enter Tryz.func211, Tryz.ntmps211
  go_wp2_with fail
  refine HS.out.mono ?_
  rintro e w1 ⟨rfl, h1, k1⟩
  go_wp2_with fail
  refine (next_no h1).mono ?_
  rintro e w2 ⟨rfl, k2⟩
  exact ⟨rfl, rfl, k1.trans k2⟩
set_option maxRecDepth 100000 in
set_option maxHeartbeats 1000000 in
theorem end_no (h : Rd B br bd off cap d most w p ov out) (hp : p ≠ d.length) :
    Calls Tryz.prog 156 #[.pointer (some ⟨br, 0, none⟩)] w fun e w' => e = gaveUp 5 ∧ ∃ q, w' = w.drewN q := by
  unfold gaveUp
  have c0 := h.c0
  have c1 := h.c1
  have tw : Hid (((p : Int) == (d.length : Int)) = false) := by
    unfold Hid
    simp; omega
  go_enter Tryz.func156, Tryz.ntmps156
  go_wp2_with fail
  refine wp_region_T (Stk br (.slice (some ⟨bd, off, none⟩) d.length cap) p) (by kernel_rfl) ?_
  intro hD
  have hS : Stk br (.slice (some ⟨bd, off, none⟩) d.length cap) p (Array.replicate 11 false) w.drew := ⟨c0, c1⟩
  refine wpAnyT_take (i := 0) (v := ?_) rfl (by kernel_rfl) (by kernel_rfl) (by kernel_rfl) (fun _ _ _ h => h) (fun _ _ h => h) (fun _ _ h => h) hD (Or.inl ⟨by rfl, ?_⟩) hS ?_
  rotate_left
  · intro W hW; obtain ⟨_, _, _, f0, f1⟩ := hW; go_simp; try (with_reducible rfl)
  clear hD hS; intro hD hS; (try simp only [Act.put, List.setIfInBounds_toArray, List.set_cons_zero, List.set_cons_succ])
  refine wpAnyT_take (i := 1) (v := ?_) rfl (by kernel_rfl) (by kernel_rfl) (by kernel_rfl) (fun _ _ _ h => h) (fun _ _ h => h) (fun _ _ h => h) hD (Or.inl ⟨by rfl, ?_⟩) hS ?_
  rotate_left
  · intro W hW; obtain ⟨_, _, _, f0, f1⟩ := hW; go_simp; try (with_reducible rfl)
  clear hD hS; intro hD hS; (try simp only [Act.put, List.setIfInBounds_toArray, List.set_cons_zero, List.set_cons_succ])
  refine wpAnyT_take (i := 2) (v := ?_) rfl (by kernel_rfl) (by kernel_rfl) (by kernel_rfl) (fun _ _ _ h => h) (fun _ _ h => h) (fun _ _ h => h) hD (Or.inl ⟨by rfl, ?_⟩) hS ?_
  rotate_left
  · intro W hW; obtain ⟨_, _, _, f0, f1⟩ := hW; go_simp; try (with_reducible rfl)
  clear hD hS; intro hD hS; (try simp only [Act.put, List.setIfInBounds_toArray, List.set_cons_zero, List.set_cons_succ])
  refine wpAnyT_take (i := 3) (v := ?_) rfl (by kernel_rfl) (by kernel_rfl) (by kernel_rfl) (fun _ _ _ h => h) (fun _ _ h => h) (fun _ _ h => h) hD (Or.inl ⟨by rfl, ?_⟩) hS ?_
  rotate_left
  · intro W hW; obtain ⟨_, _, _, f0, f1⟩ := hW; go_simp; try (with_reducible rfl)
  clear hD hS; intro hD hS; (try simp only [Act.put, List.setIfInBounds_toArray, List.set_cons_zero, List.set_cons_succ])
  refine wpAnyT_take (i := 4) (v := ?_) rfl (by kernel_rfl) (by kernel_rfl) (by kernel_rfl) (fun _ _ _ h => h) (fun _ _ h => h) (fun _ _ h => h) hD (Or.inl ⟨by rfl, ?_⟩) hS ?_
  rotate_left
  · intro W hW; obtain ⟨_, _, _, f0, f1⟩ := hW; go_simp; try (with_reducible rfl)
  clear hD hS; intro hD hS; (try simp only [Act.put, List.setIfInBounds_toArray, List.set_cons_zero, List.set_cons_succ])
  refine wpAnyT_take (i := 5) (v := ?_) rfl (by kernel_rfl) (by kernel_rfl) (by kernel_rfl) (fun _ _ _ h => h) (fun _ _ h => h) (fun _ _ h => h) hD (Or.inl ⟨by rfl, ?_⟩) hS ?_
  rotate_left
  · intro W hW; obtain ⟨_, _, _, f0, f1⟩ := hW; go_simp; try (with_reducible rfl)
  clear hD hS; intro hD hS; (try simp only [Act.put, List.setIfInBounds_toArray, List.set_cons_zero, List.set_cons_succ])
  refine wpAnyT_take (i := 6) (v := ?_) rfl (by kernel_rfl) (by kernel_rfl) (by kernel_rfl) (fun _ _ _ h => h) (fun _ _ h => h) (fun _ _ h => h) hD (Or.inl ⟨by rfl, ?_⟩) hS ?_
  rotate_left
  · intro W hW; obtain ⟨_, _, _, f0, f1⟩ := hW; go_simp; try (with_reducible rfl)
  clear hD hS; intro hD hS; (try simp only [Act.put, List.setIfInBounds_toArray, List.set_cons_zero, List.set_cons_succ])
  refine wpAnyT_take (i := 7) (v := ?_) rfl (by kernel_rfl) (by kernel_rfl) (by kernel_rfl) (fun _ _ _ h => h) (fun _ _ h => h) (fun _ _ h => h) hD (Or.inl ⟨by rfl, ?_⟩) hS ?_
  rotate_left
  · intro W hW; obtain ⟨_, _, _, f0, f1⟩ := hW; go_simp; try (with_reducible rfl)
  clear hD hS; intro hD hS; (try simp only [Act.put, List.setIfInBounds_toArray, List.set_cons_zero, List.set_cons_succ])
  refine wpAnyT_take (i := 8) (v := ?_) rfl (by kernel_rfl) (by kernel_rfl) (by kernel_rfl) (fun _ _ _ h => h) (fun _ _ h => h) (fun _ _ h => h) hD (Or.inl ⟨by rfl, ?_⟩) hS ?_
  rotate_left
  · intro W hW; obtain ⟨_, _, _, f0, f1⟩ := hW; go_simp; try (with_reducible rfl)
  clear hD hS; intro hD hS; (try simp only [Act.put, List.setIfInBounds_toArray, List.set_cons_zero, List.set_cons_succ])
  refine wpAnyT_take (i := 9) (v := ?_) rfl (by kernel_rfl) (by kernel_rfl) (by kernel_rfl) (fun _ _ _ h => h) (fun _ _ h => h) (fun _ _ h => h) hD (Or.inl ⟨by rfl, ?_⟩) hS ?_
  rotate_left
  · intro W hW; obtain ⟨_, _, _, f0, f1⟩ := hW; go_simp; try (with_reducible rfl)
  clear hD hS; intro hD hS; (try simp only [Act.put, List.setIfInBounds_toArray, List.set_cons_zero, List.set_cons_succ])
  refine wpAnyT_one (i := 10) (by kernel_rfl) rfl hD (fun K' hK => ?_)
  go_simp
  refine (must_nob _ tw.out _).mono ?_
  rintro e w7 ⟨rfl, rfl⟩
  exact ⟨rfl, rfl, 1, rfl⟩
/-- What has come of a decoder. -/
def DRes (B br bd off cap : Nat) (d : List Nat) (most : Nat) (w : World) (R : Except Nat (List Nat)) (x : Ending) (w' : World) : Prop := match R with
  | .ok o => x = .returned (.tuple #[]) ∧ ∃ ov', Rd B br bd off cap d most w' d.length ov' o ∧ Kept 5 B [br] w w'
  | .error n => x = gaveUp n ∧ Kept 5 B [br] w w'
/-- What a part may come to. -/
def Part (F B br bd off cap : Nat) (d : List Nat) (most : Nat) (J : Nat → List Nat → Except Nat (List Nat) → Prop) (E : Nat → List Nat → Except Nat (List Nat)) (q : Nat) (o : List Nat) (R : Except Nat (List Nat)) : Prop :=
  (∃ q' o', q < q' ∧ J q' o' R ∧ PGo F B br bd off cap d most q o true q' o') ∨ (∃ q' o', R = E q' o' ∧ PGo F B br bd off cap d most q o false q' o') ∨ (∃ n : Nat, R = .error n ∧ PNo F B br bd off cap d most q o n)
/-- What lies behind the end: nothing. -/
def restE0 (d : List Nat) (p : Nat) (o : List Nat) : Except Nat (List Nat) := if p < d.length then .error 5 else .ok o
set_option maxHeartbeats 1000000 in
theorem decodeHex_any {J : Nat → List Nat → Except Nat (List Nat) → Prop} {R : Except Nat (List Nat)} (hs : ∀ q o, J q o R → o.length ≤ most → q ≤ d.length → Part 154 B br bd off cap d most J (restW d) q o R) (h0 : J p out R) (h : Rd B br bd off cap d most w p ov out) :
    Calls Tryz.prog 113 #[.pointer (some ⟨br, 0, none⟩)] w fun e w' => DRes B br bd off cap d most w R e w' := by
  have HS := hide hs
  clear hs
  go_enter Tryz.func113, Tryz.ntmps113
  go_wp2
  go_loopw [3] (fun _ wr => ∃ (q : Nat) (o : List Nat) (ov' : Value), Hid (J q o R) ∧ Rd B br bd off cap d most wr q ov' o ∧ Kept 5 B [br] w wr) (fun _ wr => d.length - posOf br wr)
  case atStart => exact ⟨p, out, ov, h0, h, Kept.refl _ _ _ _⟩
  clear h h0
  case round =>
    obtain ⟨q, o, ov', HI, r, kk⟩ := hrel
    have mr := hide r.posOf
    rcases HS.out q o HI.out r.lo r.lp with ⟨q', o', hup, hI', hg⟩ | ⟨q', o', hE, hg⟩ | ⟨n, hE, hg⟩
    · have HG := hide hg
      have HI' := hide hI'
      clear hg hI'
      go_wp2_with fail
      refine (HG.out _ _ r).mono ?_
      rintro e w1 ⟨rfl, ov2, r2, k2⟩
      have m2 := hide r2.posOf
      have lp := r2.lp
      go_wp2
      go_roundw
      case rel => exact ⟨q', o', ov2, HI', r2, kk.trans k2⟩
      case measure => rw [mr.out, m2.out]; omega
    · have HG := hide hg
      have HE := hide hE
      clear hg hE
      go_wp2_with fail
      refine (HG.out _ _ r).mono ?_
      rintro e w1 ⟨rfl, ov2, r2, k2⟩
      go_wp2_with fail
      refine (skipWhite_any r2).mono ?_
      rintro e w2 ⟨rfl, r3, k3⟩
      have lp3 := r3.lp
      by_cases c : skipW d q' < d.length
      · go_wp2_with fail
        refine (end_no r3 (by omega)).mono ?_
        rintro e w3 ⟨rfl, z, rfl⟩
        refine ⟨rfl, ?_⟩
        rw [HE.out, restW, if_pos c]
        exact ⟨rfl, ((kk.trans k2).trans k3).drewN z⟩
      · obtain ⟨N, hN⟩ : ∃ N, skipW d q' = N := ⟨_, rfl⟩
        have HN := hide hN
        rw [hN] at r3 c lp3
        clear hN
        obtain rfl : N = d.length := by omega
        go_wp2_with fail
        refine (end_ok r3).mono ?_
        rintro e w3 ⟨rfl, z, rfl⟩
        go_wp2
        go_end0
        rw [HE.out, restW, HN.out, if_neg (Nat.lt_irrefl _)]
        exact ⟨rfl, ov2, r3.drewN z, ((kk.trans k2).trans k3).drewN z⟩
    · have HG := hide hg
      have HE := hide hE
      clear hg hE
      go_wp2_with fail
      refine (HG.out _ _ r).mono ?_
      rintro e w1 ⟨rfl, k2⟩
      refine ⟨rfl, ?_⟩
      rw [HE.out]
      exact ⟨rfl, kk.trans k2⟩
set_option maxHeartbeats 1000000 in
theorem decodeRun_any {J : Nat → List Nat → Except Nat (List Nat) → Prop} {R : Except Nat (List Nat)} (hs : ∀ q o, J q o R → o.length ≤ most → q ≤ d.length → Part 158 B br bd off cap d most J (restE0 d) q o R) (h0 : J p out R) (h : Rd B br bd off cap d most w p ov out) :
    Calls Tryz.prog 115 #[.pointer (some ⟨br, 0, none⟩)] w fun e w' => DRes B br bd off cap d most w R e w' := by
  have HS := hide hs
  clear hs
  go_enter Tryz.func115, Tryz.ntmps115
  go_wp2
  go_loopw [2] (fun _ wr => ∃ (q : Nat) (o : List Nat) (ov' : Value), Hid (J q o R) ∧ Rd B br bd off cap d most wr q ov' o ∧ Kept 5 B [br] w wr) (fun _ wr => d.length - posOf br wr)
  case atStart => exact ⟨p, out, ov, h0, h, Kept.refl _ _ _ _⟩
  clear h h0
  case round =>
    obtain ⟨q, o, ov', HI, r, kk⟩ := hrel
    have mr := hide r.posOf
    rcases HS.out q o HI.out r.lo r.lp with ⟨q', o', hup, hI', hg⟩ | ⟨q', o', hE, hg⟩ | ⟨n, hE, hg⟩
    · have HG := hide hg
      have HI' := hide hI'
      clear hg hI'
      go_wp2_with fail
      refine (HG.out _ _ r).mono ?_
      rintro e w1 ⟨rfl, ov2, r2, k2⟩
      have m2 := hide r2.posOf
      have lp := r2.lp
      go_wp2
      go_roundw
      case rel => exact ⟨q', o', ov2, HI', r2, kk.trans k2⟩
      case measure => rw [mr.out, m2.out]; omega
    · have HG := hide hg
      have HE := hide hE
      clear hg hE
      go_wp2_with fail
      refine (HG.out _ _ r).mono ?_
      rintro e w1 ⟨rfl, ov2, r2, k2⟩
      have lp3 := r2.lp
      by_cases c : q' < d.length
      · go_wp2_with fail
        refine (end_no r2 (by omega)).mono ?_
        rintro e w3 ⟨rfl, z, rfl⟩
        refine ⟨rfl, ?_⟩
        rw [HE.out, restE0, if_pos c]
        exact ⟨rfl, (kk.trans k2).drewN z⟩
      · obtain rfl : q' = d.length := by omega
        go_wp2_with fail
        refine (end_ok r2).mono ?_
        rintro e w3 ⟨rfl, z, rfl⟩
        go_wp2
        go_end0
        rw [HE.out, restE0, if_neg (Nat.lt_irrefl _)]
        exact ⟨rfl, ov2, r2.drewN z, (kk.trans k2).drewN z⟩
    · have HG := hide hg
      have HE := hide hE
      clear hg hE
      go_wp2_with fail
      refine (HG.out _ _ r).mono ?_
      rintro e w1 ⟨rfl, k2⟩
      refine ⟨rfl, ?_⟩
      rw [HE.out]
      exact ⟨rfl, kk.trans k2⟩
end Go.Proofs.YtgkljcmjnphpeaaGreatDoor
