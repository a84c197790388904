/- White: text.SkipWhite at every place. -/
import Derived.Test.YtgkljcmjnphpeaaGreatDoorK30
import Derived.Test.YtgkljcmjnphpeaaGreatDoorK12
import Derived.ScopeJumps
set_option linter.unusedVariables false
set_option linter.unusedSimpArgs false
namespace Go.Proofs.YtgkljcmjnphpeaaGreatDoor
open Go.RowKit
variable {B br bf bd off cap : Nat} {d : List Nat} {most : Nat} {fixed : List Value} {w : World} {p held left window : Nat} {ov : Value} {out : List Nat}
theorem and15 : ∀ a : Fin 256, bits .and .i64 (a.val : Int) 15 = ((a.val % 16 : Nat) : Int) := by decide +kernel
theorem and32 : ∀ a : Fin 256, bits .and .i64 (a.val : Int) 32 = ((32 * (a.val / 32 % 2) : Nat) : Int) := by decide +kernel
theorem or256 (a b : Nat) (ha : a < 256) (hb : b < 256) : bits .or .i64 ((a : Int) * 256) (b : Nat) = ((256 * a + b : Nat) : Int) := by
  have e : ((a : Int) * 256) = ((256 * a : Nat) : Int) := by omega
  rw [e, i64_or_nat _ _ (by omega) (by omega)]
  have := or_low b a 8 (by omega)
  rw [Nat.or_comm, show 256 * a = a * 2 ^ 8 by omega, this]
  omega
set_option maxRecDepth 100000 in
set_option maxHeartbeats 1000000 in
theorem head_a (h : Bi B br bf bd off cap d most fixed w 0 held left window ov out) (hl : d.length = 0) :
    Calls Tryz.prog 160 #[.pointer (some ⟨bf, 0, none⟩)] w fun e w' => e = gaveUp 5 ∧ Kept 5 B [br, bf] w w' := by
  have HN := hide (next_no (w := w.drew) (by rw [hl]; exact h.rd.drewN 1))
  have c0 := h.c0
  go_enter Tryz.func160, Tryz.ntmps160
  go_wp2_with fail
  refine wp_region_T (Sst bf (.pointer (some ⟨br, 0, none⟩))) (by kernel_rfl) ?_
  intro hD
  have hS : Sst bf (.pointer (some ⟨br, 0, none⟩)) (Array.replicate 16 false) w.drew := c0
  refine wpAnyT_take (i := 0) (v := ?_) rfl (by kernel_rfl) (by kernel_rfl) (by kernel_rfl) (fun _ _ _ h => h) (fun _ _ h => h) (fun _ _ h => h) hD (Or.inl ⟨by rfl, ?_⟩) hS ?_
  rotate_left
  · intro W hW; obtain ⟨_, _, _, f0⟩ := hW; unfold Sst at f0; go_simp; try (with_reducible rfl)
  clear hD hS; intro hD hS; (try simp only [Act.put, List.setIfInBounds_toArray, List.set_cons_zero, List.set_cons_succ])
  refine wpAnyT_take (i := 1) (v := ?_) rfl (by kernel_rfl) (by kernel_rfl) (by kernel_rfl) (fun _ _ _ h => h) (fun _ _ h => h) (fun _ _ h => h) hD (Or.inl ⟨by rfl, ?_⟩) hS ?_
  rotate_left
  · intro W hW; obtain ⟨_, _, _, f0⟩ := hW; unfold Sst at f0; go_simp; try (with_reducible rfl)
  clear hD hS; intro hD hS; (try simp only [Act.put, List.setIfInBounds_toArray, List.set_cons_zero, List.set_cons_succ])
  refine wpAnyT_take (i := 2) (v := ?_) rfl (by kernel_rfl) (by kernel_rfl) (by kernel_rfl) (fun _ _ _ h => h) (fun _ _ h => h) (fun _ _ h => h) hD (Or.inl ⟨by rfl, ?_⟩) hS ?_
  rotate_left
  · intro W hW; obtain ⟨_, _, _, f0⟩ := hW; unfold Sst at f0; go_simp; try (with_reducible rfl)
  clear hD hS; intro hD hS; (try simp only [Act.put, List.setIfInBounds_toArray, List.set_cons_zero, List.set_cons_succ])
  refine wpAnyT_take (i := 3) (v := ?_) rfl (by kernel_rfl) (by kernel_rfl) (by kernel_rfl) (fun _ _ _ h => h) (fun _ _ h => h) (fun _ _ h => h) hD (Or.inl ⟨by rfl, ?_⟩) hS ?_
  rotate_left
  · intro W hW; obtain ⟨_, _, _, f0⟩ := hW; unfold Sst at f0; go_simp; try (with_reducible rfl)
  clear hD hS; intro hD hS; (try simp only [Act.put, List.setIfInBounds_toArray, List.set_cons_zero, List.set_cons_succ])
  refine wpAnyT_take (i := 4) (v := ?_) rfl (by kernel_rfl) (by kernel_rfl) (by kernel_rfl) (fun _ _ _ h => h) (fun _ _ h => h) (fun _ _ h => h) hD (Or.inl ⟨by rfl, ?_⟩) hS ?_
  rotate_left
  · intro W hW; obtain ⟨_, _, _, f0⟩ := hW; unfold Sst at f0; go_simp; try (with_reducible rfl)
  clear hD hS; intro hD hS; (try simp only [Act.put, List.setIfInBounds_toArray, List.set_cons_zero, List.set_cons_succ])
  refine wpAnyT_take (i := 7) (v := ?_) rfl (by kernel_rfl) (by kernel_rfl) (by kernel_rfl) (fun _ _ _ h => h) (fun _ _ h => h) (fun _ _ h => h) hD (Or.inl ⟨by rfl, ?_⟩) hS ?_
  rotate_left
  · intro W hW; obtain ⟨_, _, _, f0⟩ := hW; unfold Sst at f0; go_simp; try (with_reducible rfl)
  clear hD hS; intro hD hS; (try simp only [Act.put, List.setIfInBounds_toArray, List.set_cons_zero, List.set_cons_succ])
  refine wpAnyT_take (i := 8) (v := ?_) rfl (by kernel_rfl) (by kernel_rfl) (by kernel_rfl) (fun _ _ _ h => h) (fun _ _ h => h) (fun _ _ h => h) hD (Or.inl ⟨by rfl, ?_⟩) hS ?_
  rotate_left
  · intro W hW; obtain ⟨_, _, _, f0⟩ := hW; unfold Sst at f0; go_simp; try (with_reducible rfl)
  clear hD hS; intro hD hS; (try simp only [Act.put, List.setIfInBounds_toArray, List.set_cons_zero, List.set_cons_succ])
  refine wpAnyT_take (i := 9) (v := ?_) rfl (by kernel_rfl) (by kernel_rfl) (by kernel_rfl) (fun _ _ _ h => h) (fun _ _ h => h) (fun _ _ h => h) hD (Or.inl ⟨by rfl, ?_⟩) hS ?_
  rotate_left
  · intro W hW; obtain ⟨_, _, _, f0⟩ := hW; unfold Sst at f0; go_simp; try (with_reducible rfl)
  clear hD hS; intro hD hS; (try simp only [Act.put, List.setIfInBounds_toArray, List.set_cons_zero, List.set_cons_succ])
  refine wpAnyT_take (i := 10) (v := ?_) rfl (by kernel_rfl) (by kernel_rfl) (by kernel_rfl) (fun _ _ _ h => h) (fun _ _ h => h) (fun _ _ h => h) hD (Or.inl ⟨by rfl, ?_⟩) hS ?_
  rotate_left
  · intro W hW; obtain ⟨_, _, _, f0⟩ := hW; unfold Sst at f0; go_simp; try (with_reducible rfl)
  clear hD hS; intro hD hS; (try simp only [Act.put, List.setIfInBounds_toArray, List.set_cons_zero, List.set_cons_succ])
  refine wpAnyT_take (i := 11) (v := ?_) rfl (by kernel_rfl) (by kernel_rfl) (by kernel_rfl) (fun _ _ _ h => h) (fun _ _ h => h) (fun _ _ h => h) hD (Or.inl ⟨by rfl, ?_⟩) hS ?_
  rotate_left
  · intro W hW; obtain ⟨_, _, _, f0⟩ := hW; unfold Sst at f0; go_simp; try (with_reducible rfl)
  clear hD hS; intro hD hS; (try simp only [Act.put, List.setIfInBounds_toArray, List.set_cons_zero, List.set_cons_succ])
  refine wpAnyT_one (i := 5) (by kernel_rfl) rfl hD (fun K' hK => ?_)
  go_simp
  refine HN.out.mono ?_
  rintro e w1 ⟨rfl, k1⟩
  exact ⟨rfl, rfl, ((Kept.refl _ _ _ _).drew).trans (k1.mono (by simp))⟩
set_option maxRecDepth 100000 in
set_option maxHeartbeats 1000000 in
theorem head_b (h : Bi B br bf bd off cap d most fixed w 0 held left window ov out) (hl : d.length = 1) :
    Calls Tryz.prog 160 #[.pointer (some ⟨bf, 0, none⟩)] w fun e w' => e = gaveUp 5 ∧ Kept 5 B [br, bf] w w' := by
  have HN := hide (next_ok (w := w.drew) (h.rd.drewN 1) (by omega))
  have c0 := h.c0
  go_enter Tryz.func160, Tryz.ntmps160
  go_wp2_with fail
  refine wp_region_T (Sst bf (.pointer (some ⟨br, 0, none⟩))) (by kernel_rfl) ?_
  intro hD
  have hS : Sst bf (.pointer (some ⟨br, 0, none⟩)) (Array.replicate 16 false) w.drew := c0
  refine wpAnyT_take (i := 0) (v := ?_) rfl (by kernel_rfl) (by kernel_rfl) (by kernel_rfl) (fun _ _ _ h => h) (fun _ _ h => h) (fun _ _ h => h) hD (Or.inl ⟨by rfl, ?_⟩) hS ?_
  rotate_left
  · intro W hW; obtain ⟨_, _, _, f0⟩ := hW; unfold Sst at f0; go_simp; try (with_reducible rfl)
  clear hD hS; intro hD hS; (try simp only [Act.put, List.setIfInBounds_toArray, List.set_cons_zero, List.set_cons_succ])
  refine wpAnyT_take (i := 1) (v := ?_) rfl (by kernel_rfl) (by kernel_rfl) (by kernel_rfl) (fun _ _ _ h => h) (fun _ _ h => h) (fun _ _ h => h) hD (Or.inl ⟨by rfl, ?_⟩) hS ?_
  rotate_left
  · intro W hW; obtain ⟨_, _, _, f0⟩ := hW; unfold Sst at f0; go_simp; try (with_reducible rfl)
  clear hD hS; intro hD hS; (try simp only [Act.put, List.setIfInBounds_toArray, List.set_cons_zero, List.set_cons_succ])
  refine wpAnyT_take (i := 2) (v := ?_) rfl (by kernel_rfl) (by kernel_rfl) (by kernel_rfl) (fun _ _ _ h => h) (fun _ _ h => h) (fun _ _ h => h) hD (Or.inl ⟨by rfl, ?_⟩) hS ?_
  rotate_left
  · intro W hW; obtain ⟨_, _, _, f0⟩ := hW; unfold Sst at f0; go_simp; try (with_reducible rfl)
  clear hD hS; intro hD hS; (try simp only [Act.put, List.setIfInBounds_toArray, List.set_cons_zero, List.set_cons_succ])
  refine wpAnyT_take (i := 3) (v := ?_) rfl (by kernel_rfl) (by kernel_rfl) (by kernel_rfl) (fun _ _ _ h => h) (fun _ _ h => h) (fun _ _ h => h) hD (Or.inl ⟨by rfl, ?_⟩) hS ?_
  rotate_left
  · intro W hW; obtain ⟨_, _, _, f0⟩ := hW; unfold Sst at f0; go_simp; try (with_reducible rfl)
  clear hD hS; intro hD hS; (try simp only [Act.put, List.setIfInBounds_toArray, List.set_cons_zero, List.set_cons_succ])
  refine wpAnyT_take (i := 4) (v := ?_) rfl (by kernel_rfl) (by kernel_rfl) (by kernel_rfl) (fun _ _ _ h => h) (fun _ _ h => h) (fun _ _ h => h) hD (Or.inl ⟨by rfl, ?_⟩) hS ?_
  rotate_left
  · intro W hW; obtain ⟨_, _, _, f0⟩ := hW; unfold Sst at f0; go_simp; try (with_reducible rfl)
  clear hD hS; intro hD hS; (try simp only [Act.put, List.setIfInBounds_toArray, List.set_cons_zero, List.set_cons_succ])
  refine wpAnyT_take (i := 7) (v := ?_) rfl (by kernel_rfl) (by kernel_rfl) (by kernel_rfl) (fun _ _ _ h => h) (fun _ _ h => h) (fun _ _ h => h) hD (Or.inl ⟨by rfl, ?_⟩) hS ?_
  rotate_left
  · intro W hW; obtain ⟨_, _, _, f0⟩ := hW; unfold Sst at f0; go_simp; try (with_reducible rfl)
  clear hD hS; intro hD hS; (try simp only [Act.put, List.setIfInBounds_toArray, List.set_cons_zero, List.set_cons_succ])
  refine wpAnyT_take (i := 8) (v := ?_) rfl (by kernel_rfl) (by kernel_rfl) (by kernel_rfl) (fun _ _ _ h => h) (fun _ _ h => h) (fun _ _ h => h) hD (Or.inl ⟨by rfl, ?_⟩) hS ?_
  rotate_left
  · intro W hW; obtain ⟨_, _, _, f0⟩ := hW; unfold Sst at f0; go_simp; try (with_reducible rfl)
  clear hD hS; intro hD hS; (try simp only [Act.put, List.setIfInBounds_toArray, List.set_cons_zero, List.set_cons_succ])
  refine wpAnyT_take (i := 9) (v := ?_) rfl (by kernel_rfl) (by kernel_rfl) (by kernel_rfl) (fun _ _ _ h => h) (fun _ _ h => h) (fun _ _ h => h) hD (Or.inl ⟨by rfl, ?_⟩) hS ?_
  rotate_left
  · intro W hW; obtain ⟨_, _, _, f0⟩ := hW; unfold Sst at f0; go_simp; try (with_reducible rfl)
  clear hD hS; intro hD hS; (try simp only [Act.put, List.setIfInBounds_toArray, List.set_cons_zero, List.set_cons_succ])
  refine wpAnyT_take (i := 10) (v := ?_) rfl (by kernel_rfl) (by kernel_rfl) (by kernel_rfl) (fun _ _ _ h => h) (fun _ _ h => h) (fun _ _ h => h) hD (Or.inl ⟨by rfl, ?_⟩) hS ?_
  rotate_left
  · intro W hW; obtain ⟨_, _, _, f0⟩ := hW; unfold Sst at f0; go_simp; try (with_reducible rfl)
  clear hD hS; intro hD hS; (try simp only [Act.put, List.setIfInBounds_toArray, List.set_cons_zero, List.set_cons_succ])
  refine wpAnyT_take (i := 11) (v := ?_) rfl (by kernel_rfl) (by kernel_rfl) (by kernel_rfl) (fun _ _ _ h => h) (fun _ _ h => h) (fun _ _ h => h) hD (Or.inl ⟨by rfl, ?_⟩) hS ?_
  rotate_left
  · intro W hW; obtain ⟨_, _, _, f0⟩ := hW; unfold Sst at f0; go_simp; try (with_reducible rfl)
  clear hD hS; intro hD hS; (try simp only [Act.put, List.setIfInBounds_toArray, List.set_cons_zero, List.set_cons_succ])
  refine wpAnyT_one (i := 5) (by kernel_rfl) rfl hD (fun K' hK => ?_)
  go_simp
  refine HN.out.mono ?_
  rintro e w1 ⟨rfl, r1, k1⟩
  have HN2 := hide (next_no (show Rd B br bd off cap d most w1 d.length ov out by rw [hl]; exact r1))
  refine hK.out _ _ ((h.rdKept r1 (((Kept.refl _ _ _ _).drewN 1).trans k1)).c0) (fun hD2 hS2 => ?_)
  clear hD hS hK K'
  have hD := hD2
  have hS := hS2
  clear hD2 hS2
  (try simp only [Act.put, List.setIfInBounds_toArray, List.set_cons_zero, List.set_cons_succ])
  clear HN
  refine wpAnyT_take (i := 6) (v := ?_) rfl (by kernel_rfl) (by kernel_rfl) (by kernel_rfl) (fun _ _ _ h => h) (fun _ _ h => h) (fun _ _ h => h) hD (Or.inl ⟨by rfl, ?_⟩) hS ?_
  rotate_left
  · intro W hW; obtain ⟨_, _, _, f0⟩ := hW; unfold Sst at f0; go_simp; try (with_reducible rfl)
  clear hD hS; intro hD hS; (try simp only [Act.put, List.setIfInBounds_toArray, List.set_cons_zero, List.set_cons_succ])
  refine wpAnyT_one (i := 12) (by kernel_rfl) rfl hD (fun K' hK => ?_)
  go_simp
  refine HN2.out.mono ?_
  rintro e w2 ⟨rfl, k2⟩
  exact ⟨rfl, rfl, ((Kept.refl _ _ _ _).drew).trans ((k1.trans k2).mono (by simp))⟩
/-- What has come of the head. -/
def HdRes (B br bf bd off cap : Nat) (d : List Nat) (most : Nat) (fixed : List Value) (held left : Nat) (ov : Value) (out : List Nat) (w : World) (e : Ending) (w' : World) : Prop :=
  (¬ (2 ≤ d.length ∧ Fo.headGood (nth d 0) (nth d 1)) ∧ e = gaveUp 5 ∧ Kept 5 B [br, bf] w w') ∨ ((2 ≤ d.length ∧ Fo.headGood (nth d 0) (nth d 1)) ∧ e = .returned (.tuple #[]) ∧ Bi B br bf bd off cap d most fixed w' 2 held left (2 ^ (nth d 0 / 16 + 8)) ov out ∧ Kept 5 B [br, bf] w w')
set_option maxRecDepth 100000 in
set_option maxHeartbeats 2000000 in
theorem head_long (h : Bi B br bf bd off cap d most fixed w 0 held left window ov out) (hl : 2 ≤ d.length) :
    Calls Tryz.prog 160 #[.pointer (some ⟨bf, 0, none⟩)] w (HdRes B br bf bd off cap d most fixed held left ov out w) := by
  have c0 := h.c0
  have tok : True := trivial
  have ha := h.rd.byt 0 (by omega)
  have hb := h.rd.byt 1 (by omega)
  have o1 := or256 (nth d 0) (nth d 1) ha hb
  have o2 := and15 ⟨nth d 0, ha⟩
  have o3 := and32 ⟨nth d 1, hb⟩
  simp only [] at o2 o3
  have HN1 := hide (next_ok (w := w.drew) (h.rd.drewN 1) (by omega))
  have HN2 := hide (fun w1 (r1 : Rd B br bd off cap d most w1 (0 + 1) ov out) => next_ok r1 (by omega))
  rw [Nat.zero_add] at HN1 HN2
  have HGD : Hid (Fo.headGood (nth d 0) (nth d 1) ↔ nth d 0 % 16 = 8 ∧ nth d 0 / 16 ≤ 7 ∧ (256 * nth d 0 + nth d 1) % 31 = 0 ∧ nth d 1 / 32 % 2 = 0) := Iff.rfl
  have HRS : Hid (∀ e w', (¬ Fo.headGood (nth d 0) (nth d 1) ∧ e = gaveUp 5 ∧ Kept 5 B [br, bf] w w') ∨ (Fo.headGood (nth d 0) (nth d 1) ∧ e = .returned (.tuple #[]) ∧ Bi B br bf bd off cap d most fixed w' 2 held left (2 ^ (nth d 0 / 16 + 8)) ov out ∧ Kept 5 B [br, bf] w w') → HdRes B br bf bd off cap d most fixed held left ov out w e w') := fun e w' hh => by
    rcases hh with ⟨h1, h2⟩ | ⟨h1, h2⟩
    · exact Or.inl ⟨fun h => h1 h.2, h2⟩
    · exact Or.inr ⟨⟨hl, h1⟩, h2⟩
  generalize nth d 0 = a at *
  generalize nth d 1 = b at *
  go_enter Tryz.func160, Tryz.ntmps160
  go_wp2_with fail
  go_region_with (first | (go_at_call 214; have _t := tok; refine HN1.out.mono ?_; rintro e w1 ⟨rfl, r1, k1⟩; have h1 := h.rdKept r1 (((Kept.refl _ _ _ _).drewN 1).trans k1); have c1 := h1.c0; clear tok) | (go_at_call 214; refine (HN2.out _ r1).mono ?_; rintro e w2 ⟨rfl, r2, k2⟩; have h2 := h1.rdKept r2 k2; have c2 := h2.c0; have c3 := h2.c3; have f3 := h2.fz 3))
  all_goals (
    have kk : Kept 5 B [br, bf] w w2 := ((Kept.refl _ _ _ _).drewN 1).trans ((k1.trans k2).mono (by simp))
    have KK := hide kk
    have H2 := hide h2
    clear k1 k2 kk r1 r2 h1 h2 HN1 HN2 h
    by_cases g1 : a % 16 = 8
    · have g1' : (((a % 16 : Nat) : Int) == 8) = true := by simp; omega
      go_wp2_with fail
      refine (must_yesb _ (by first | rfl | (simp; omega)) _).mono ?_
      rintro e w' ⟨rfl, rfl⟩
      by_cases g2 : a / 16 ≤ 7
      · go_wp2_with fail
        refine (within_int_yes _ _ _ _ (by omega) (by omega)).mono ?_
        rintro e w' ⟨rfl, rfl⟩
        go_wp2_with fail
        refine (must_yes _).mono ?_
        rintro e w' ⟨rfl, rfl⟩
        go_wp2_with fail
        by_cases g3 : (256 * a + b) % 31 = 0
        · refine (must_yesb _ (by first | rfl | (rw [beq_iff_eq]; omega)) _).mono ?_
          rintro e w' ⟨rfl, rfl⟩
          go_wp2_with fail
          by_cases g4 : b / 32 % 2 = 0
          · refine (must_yesb _ (by first | rfl | (rw [beq_iff_eq]; omega)) _).mono ?_
            rintro e w' ⟨rfl, rfl⟩
            have hgood := HGD.out.2 ⟨g1, g2, g3, g4⟩
            have hcs : a / 16 = 0 ∨ a / 16 = 1 ∨ a / 16 = 2 ∨ a / 16 = 3 ∨ a / 16 = 4 ∨ a / 16 = 5 ∨ a / 16 = 6 ∨ a / 16 = 7 := by omega
            clear g1 g2 g3 g4 o1 o2 o3 g1'
            rcases hcs with hk | hk | hk | hk | hk | hk | hk | hk
            · have hk' : (a : Int) / 16 = 0 := by omega
              have HP : Hid (2 ^ (a / 16 + 8) = 256) := by rw [hk]; rfl
              clear hk
              go_wp2
              go_end0
              exact HRS.out _ _ (Or.inr ⟨hgood, rfl, by rw [HP.out]; exact H2.out.set3 256, KK.out.setCell (by simp) _⟩)
            · have hk' : (a : Int) / 16 = 1 := by omega
              have HP : Hid (2 ^ (a / 16 + 8) = 512) := by rw [hk]; rfl
              clear hk
              go_wp2
              go_end0
              exact HRS.out _ _ (Or.inr ⟨hgood, rfl, by rw [HP.out]; exact H2.out.set3 512, KK.out.setCell (by simp) _⟩)
            · have hk' : (a : Int) / 16 = 2 := by omega
              have HP : Hid (2 ^ (a / 16 + 8) = 1024) := by rw [hk]; rfl
              clear hk
              go_wp2
              go_end0
              exact HRS.out _ _ (Or.inr ⟨hgood, rfl, by rw [HP.out]; exact H2.out.set3 1024, KK.out.setCell (by simp) _⟩)
            · have hk' : (a : Int) / 16 = 3 := by omega
              have HP : Hid (2 ^ (a / 16 + 8) = 2048) := by rw [hk]; rfl
              clear hk
              go_wp2
              go_end0
              exact HRS.out _ _ (Or.inr ⟨hgood, rfl, by rw [HP.out]; exact H2.out.set3 2048, KK.out.setCell (by simp) _⟩)
            · have hk' : (a : Int) / 16 = 4 := by omega
              have HP : Hid (2 ^ (a / 16 + 8) = 4096) := by rw [hk]; rfl
              clear hk
              go_wp2
              go_end0
              exact HRS.out _ _ (Or.inr ⟨hgood, rfl, by rw [HP.out]; exact H2.out.set3 4096, KK.out.setCell (by simp) _⟩)
            · have hk' : (a : Int) / 16 = 5 := by omega
              have HP : Hid (2 ^ (a / 16 + 8) = 8192) := by rw [hk]; rfl
              clear hk
              go_wp2
              go_end0
              exact HRS.out _ _ (Or.inr ⟨hgood, rfl, by rw [HP.out]; exact H2.out.set3 8192, KK.out.setCell (by simp) _⟩)
            · have hk' : (a : Int) / 16 = 6 := by omega
              have HP : Hid (2 ^ (a / 16 + 8) = 16384) := by rw [hk]; rfl
              clear hk
              go_wp2
              go_end0
              exact HRS.out _ _ (Or.inr ⟨hgood, rfl, by rw [HP.out]; exact H2.out.set3 16384, KK.out.setCell (by simp) _⟩)
            · have hk' : (a : Int) / 16 = 7 := by omega
              have HP : Hid (2 ^ (a / 16 + 8) = 32768) := by rw [hk]; rfl
              clear hk
              go_wp2
              go_end0
              exact HRS.out _ _ (Or.inr ⟨hgood, rfl, by rw [HP.out]; exact H2.out.set3 32768, KK.out.setCell (by simp) _⟩)
          · refine (must_nob _ (by first | rfl | (rw [beq_eq_false_iff_ne]; omega)) _).mono ?_
            rintro e w' ⟨rfl, rfl⟩
            exact ⟨rfl, HRS.out _ _ (Or.inl ⟨fun h => g4 (HGD.out.1 h).2.2.2, rfl, KK.out⟩)⟩
        · refine (must_nob _ (by first | rfl | (rw [beq_eq_false_iff_ne]; omega)) _).mono ?_
          rintro e w' ⟨rfl, rfl⟩
          exact ⟨rfl, HRS.out _ _ (Or.inl ⟨fun h => g3 (HGD.out.1 h).2.2.1, rfl, KK.out⟩)⟩
      · go_wp2_with fail
        refine (within_int_no _ _ _ _ (Or.inr (by omega))).mono ?_
        rintro e w' ⟨rfl, rfl⟩
        go_wp2_with fail
        refine (must_nob _ rfl _).mono ?_
        rintro e w' ⟨rfl, rfl⟩
        exact ⟨rfl, HRS.out _ _ (Or.inl ⟨fun h => g2 (HGD.out.1 h).2.1, rfl, KK.out⟩)⟩
    · go_wp2_with fail
      refine (must_nob _ (by simp; omega) _).mono ?_
      rintro e w' ⟨rfl, rfl⟩
      exact ⟨rfl, HRS.out _ _ (Or.inl ⟨fun h => g1 (HGD.out.1 h).1, rfl, KK.out⟩)⟩)
end Go.Proofs.YtgkljcmjnphpeaaGreatDoor
namespace Go.Proofs.YtgkljcmjnphpeaaGreatDoor
open Go.RowKit
theorem part_byte {c : Fo.Codes} {window most : Nat} {r r' : List Bool} {o o' : List Nat} {b : Bool} (h : Fo.part c window most r o = .ok (b, r', o')) (hb : ∀ x ∈ o, x < 256) : ∀ x ∈ o', x < 256 := by
  unfold Fo.part at h
  cases h1 : Fo.sym c.cs c.ss r with
  | none => rw [h1] at h; cases h
  | some x =>
    obtain ⟨s, r1⟩ := x
    rw [h1] at h; simp only [] at h
    by_cases c1 : s < 256
    · rw [if_pos c1] at h
      split at h
      · cases h
        intro y hy
        rcases List.mem_append.1 hy with hy | hy
        · exact hb y hy
        · rw [List.mem_singleton.1 hy]; exact c1
      · cases h
    rw [if_neg c1] at h
    split at h
    · cases h; exact hb
    split at h
    · cases h
    cases h2 : Fo.take (Fo.lenSpan s).2 r1 with
    | none => rw [h2] at h; cases h
    | some x =>
      obtain ⟨x, r2⟩ := x
      rw [h2] at h; simp only [] at h
      cases h3 : Fo.sym c.cd c.sd r2 with
      | none => rw [h3] at h; cases h
      | some y =>
        obtain ⟨t, r3⟩ := y
        rw [h3] at h; simp only [] at h
        by_cases c4 : 29 < t
        · rw [if_pos c4] at h; cases h
        rw [if_neg c4] at h
        cases h4 : Fo.take (Fo.distSpan t).2 r3 with
        | none => rw [h4] at h; cases h
        | some z =>
          obtain ⟨y, r4⟩ := z
          rw [h4] at h; simp only [] at h
          by_cases c5 : (Fo.distSpan t).1 + y ≤ o.length ∧ (Fo.distSpan t).1 + y ≤ window
          · rw [if_pos c5] at h
            split at h
            · cases h
              have l2 := distSpan_le ⟨t, by omega⟩
              simp only [] at l2
              exact copy_byte _ (by omega) c5.1 hb _
            · cases h
          · rw [if_neg c5] at h; cases h
theorem parts_byte {c : Fo.Codes} {window most : Nat} {r r' : List Bool} {o o' : List Nat} (h : Fo.PartsTo c window most r o (.ok (r', o'))) (hb : ∀ x ∈ o, x < 256) : ∀ x ∈ o', x < 256 :=
  h (fun r o res => (∀ x ∈ o, x < 256) → ∀ r' o', res = .ok (r', o') → ∀ x ∈ o', x < 256) (fun _ _ _ _ _ r' o' h => by cases h) (fun _ _ r1 o1 hp hb r' o' h => by cases h; exact part_byte hp hb) (fun _ _ r1 o1 res hp ih hb r' o' h => ih (part_byte hp hb) r' o' h) hb r' o' rfl
theorem block_byte {window most : Nat} {r r' : List Bool} {o o' : List Nat} (h : Fo.BlockTo window most r o (.ok (r', o'))) (hb : ∀ x ∈ o, x < 256) : ∀ x ∈ o', x < 256 := by
  rcases h with ⟨_, h⟩ | ⟨_, _, h⟩ | ⟨_, _, h⟩ | ⟨_, _, h⟩ | ⟨_, _, h⟩
  · cases h
  · unfold Fo.storedDec at h
    split at h
    · cases h
    split at h
    · cases h
    split at h
    · simp only [Except.ok.injEq, Prod.mk.injEq] at h
      rw [← h.2]
      intro x hx
      rcases List.mem_append.1 hx with hx | hx
      · exact hb x hx
      · exact bytesAt_byte _ _ x hx
    · cases h
  · exact parts_byte h hb
  · cases hh : Fo.ownHead (r.drop 3) with
    | none => have := h.1 hh; cases this
    | some x =>
      obtain ⟨r1, L⟩ := x
      by_cases g : Fo.ownGood L (Fo.headA (r.drop 3))
      · exact parts_byte ((h.2 r1 L hh).2 g) hb
      · have := (h.2 r1 L hh).1 g; cases this
  · cases h
theorem bitsOf_app (a b : List Nat) : Fo.bitsOf (a ++ b) = Fo.bitsOf a ++ Fo.bitsOf b := by simp [Fo.bitsOf]
theorem bytesAt_bits (l : List Nat) (hl : ∀ x ∈ l, x < 256) (n : Nat) (hn : n ≤ l.length) : Fo.bytesAt (Fo.bitsOf l) n = l.take n := by
  have e1 : Fo.bitsOf (Fo.bytesAt (Fo.bitsOf l) n) = (Fo.bitsOf l).take (8 * n) := bitsOf_bytesAt _ n (by rw [Fo.bitsOf_length]; omega)
  have e2 : (Fo.bitsOf l).take (8 * n) = Fo.bitsOf (l.take n) := by
    conv => lhs; rw [← List.take_append_drop n l, bitsOf_app]
    exact List.take_left' (by rw [Fo.bitsOf_length, List.length_take]; omega)
  refine bitsOf_inj _ _ (by rw [bytesAt_len, List.length_take]; omega) (fun i hi => nth_byte (bytesAt_byte _ _) i hi) (fun i hi => nth_byte (fun x hx => hl x (List.mem_of_mem_take hx)) i hi) (e1.trans e2)
theorem bytes_list {d : List Nat} (h : ∀ i, i < d.length → nth d i < 256) : ∀ x ∈ d, x < 256 := by
  intro x hx
  obtain ⟨i, hi, rfl⟩ := List.getElem_of_mem hx
  have := h i hi
  simpa [nth, List.getElem?_eq_getElem hi] using this
theorem two_cons {d : List Nat} (c : 2 ≤ d.length) : ∃ a b d', d = a :: b :: d' := by
  match d, c with
  | a :: b :: d', _ => exact ⟨a, b, d', rfl⟩
/-- Filter 4's first bytes, in bytes. -/
theorem openTo_bytes {d : List Nat} {most : Nat} {r1 : Except Nat (List Bool × List Nat)} (hb : ∀ i, i < d.length → nth d i < 256) (h : Fo.OpenTo most (Fo.bitsOf d) r1) :
    (¬ (2 ≤ d.length ∧ Fo.headGood (nth d 0) (nth d 1)) ∧ r1 = .error 5) ∨ ((2 ≤ d.length ∧ Fo.headGood (nth d 0) (nth d 1)) ∧ Fo.BlocksTo (2 ^ (nth d 0 / 16 + 8)) most (Fo.bitsOf (d.drop 2)) [] r1) := by
  unfold Fo.OpenTo at h
  rw [Fo.bitsOf_length] at h
  by_cases c : 2 ≤ d.length
  · obtain ⟨a, b, d', rfl⟩ := two_cons c
    have ha : a < 256 := hb 0 (by simp)
    have hbb : b < 256 := hb 1 (by simp)
    have n0 : nth (a :: b :: d') 0 = a := rfl
    have n1 : nth (a :: b :: d') 1 = b := rfl
    have nd : (a :: b :: d').drop 2 = d' := rfl
    rw [n0, n1, nd]
    have e0 : Fo.bitsOf (a :: b :: d') = Fo.bits8 a ++ (Fo.bits8 b ++ Fo.bitsOf d') := by rw [Fo.bitsOf_cons, Fo.bitsOf_cons]
    have e1 : (Fo.bitsOf (a :: b :: d')).take 8 = Fo.bits8 a := by rw [e0]; exact List.take_left' (Fo.bits8_length a)
    have e2 : (Fo.bitsOf (a :: b :: d')).drop 8 = Fo.bits8 b ++ Fo.bitsOf d' := by rw [e0]; exact List.drop_left' (Fo.bits8_length a)
    have e3 : ((Fo.bitsOf (a :: b :: d')).drop 8).take 8 = Fo.bits8 b := by rw [e2]; exact List.take_left' (Fo.bits8_length b)
    have e4 : (Fo.bitsOf (a :: b :: d')).drop 16 = Fo.bitsOf d' := by
      have e5 : (Fo.bitsOf (a :: b :: d')).drop 16 = ((Fo.bitsOf (a :: b :: d')).drop 8).drop 8 := by rw [List.drop_drop]
      rw [e5, e2]; exact List.drop_left' (Fo.bits8_length b)
    rw [e1, e3, e4, Fo.val_bits8 a ha, Fo.val_bits8 b hbb] at h
    clear e0 e1 e2 e3 e4 n0 n1 nd
    rcases h with ⟨h1, h2⟩ | ⟨h1, h2⟩
    · exact Or.inl ⟨fun h => h1 ⟨by have := h.1; omega, h.2⟩, h2⟩
    · exact Or.inr ⟨⟨c, h1.2⟩, h2⟩
  · rcases h with ⟨_, h2⟩ | ⟨⟨h1, _⟩, _⟩
    · exact Or.inl ⟨fun h => c h.1, h2⟩
    · omega
/-- The sum, in bytes. -/
theorem sumDec_bytes {d : List Nat} {r : List Bool} {o : List Nat} {p : Nat} (hb : ∀ i, i < d.length → nth d i < 256) (hp : p ≤ d.length) (hr : Fo.bitsOf (d.drop p) = r.drop (r.length % 8)) :
    Fo.sumDec r o = if d.length = p + 4 ∧ (d.drop p).take 4 = sum4 o then .ok o else .error 5 := by
  unfold Fo.sumDec
  rw [← hr, Fo.bitsOf_length, List.length_drop]
  by_cases c : d.length = p + 4
  · rw [bytesAt_bits _ (fun x hx => bytes_list hb x (List.mem_of_mem_drop hx)) 4 (by rw [List.length_drop]; omega)]
    by_cases c2 : (d.drop p).take 4 = sum4 o
    · rw [if_pos ⟨by omega, c2⟩, if_pos ⟨c, c2⟩]
    · rw [if_neg (fun h => c2 h.2), if_neg (fun h => c2 h.2)]
  · rw [if_neg (fun h => by omega), if_neg (fun h => c h.1)]
end Go.Proofs.YtgkljcmjnphpeaaGreatDoor
namespace Go.Proofs.YtgkljcmjnphpeaaGreatDoor
open Go.RowKit
variable {B br bd off cap : Nat} {d : List Nat} {most : Nat} {w : World} {p : Nat} {ov : Value} {out : List Nat}
theorem white_ok (c : Nat) (w : World) : Calls Tryz.prog 250 #[.int .u8 c] w fun e w' => e = .returned (.bool (whiteB c)) ∧ w' = w := by
  have e : ((c : Int) == 0 || (c : Int) == 9 || (c : Int) == 10 || (c : Int) == 12 || (c : Int) == 13 || (c : Int) == 32) = whiteB c := by
    rw [Bool.eq_iff_iff]
    simp [whiteB]; omega
  have := is_white c w
  rw [e] at this
  exact this
set_option maxRecDepth 100000 in
set_option maxHeartbeats 1000000 in
theorem skip_any (h : Rd B br bd off cap d most w p ov out) :
    Calls Tryz.prog 188 #[.slice (some ⟨bd, off, none⟩) d.length cap, .int .i64 p] w fun e w' => e = .returned (.int .i64 (skipW d p : Nat)) ∧ w' = w := by
  have hdat := hide h.dat
  have b1 := h.cp
  have b2 := h.lc
  have lp := h.lp
  clear h
  go_enter Tryz.func188, Tryz.ntmps188
  go_wp2
  refine wp_scope_jumps 0 (fun a' w' => w' = w ∧ ∃ (m : Nat) (y105 y106 y107 y108 y109 y110 y111 y112 y113 y114 y115 y116 y117 y118 : Value), a' = { tmps := #[.slice (some ⟨bd, off, none⟩) d.length cap, .int .i64 m, undef, undef, .int .i64 0, y105, y106, y107, y108, y109, y110, y111, y112, y113, y114, y115, y116, y117, y118], defers := [] } ∧ m ≤ d.length ∧ Hid (skipW d m = skipW d p)) (fun a' _ => d.length - (intOf (a'.tmps.getD 1 undef)).toNat) rfl ?_ ?_
  · by_cases c : p < d.length
    · have c' : (p : Int) < d.length := by omega
      have hd := hdat.out p c
      cases hw : whiteB (nth d p)
      · have hs : skipW d p = p := skipW_stop (fun h => by rw [hw] at h; cases h.2)
        go_wp2
        go_step3
        go_wp2_with (go_at_call 250; refine (white_ok _ _).mono ?_; rintro e w' ⟨rfl, rfl⟩; rw [hw])
        simp only [Exit.jump]
        go_ret
        exact ⟨by rw [hs]; rfl, rfl⟩
      · have hs := skipW_step c hw
        go_wp2
        go_step3
        go_wp2_with (go_at_call 250; refine (white_ok _ _).mono ?_; rintro e w' ⟨rfl, rfl⟩; rw [hw])
        go_step3
        refine ⟨rfl, rfl, p + 1, _, _, _, _, _, _, _, _, _, _, _, _, _, _, rfl, by omega, hs.symm⟩
    · have c' : ¬ (p : Int) < d.length := by omega
      have hs : skipW d p = p := skipW_stop (fun h => c h.1)
      go_wp2
      go_step3
      go_wp2
      simp only [Exit.jump]
      go_ret
      exact ⟨by rw [hs]; rfl, rfl⟩
  · rintro a' w' ⟨rfl, m, y105, y106, y107, y108, y109, y110, y111, y112, y113, y114, y115, y116, y117, y118, rfl, hm, HS⟩
    by_cases c : m < d.length
    · have c' : (m : Int) < d.length := by omega
      have hd := hdat.out m c
      cases hw : whiteB (nth d m)
      · have hs : skipW d m = m := skipW_stop (fun h => by rw [hw] at h; cases h.2)
        go_wp2_with (go_at_call 250; refine (white_ok _ _).mono ?_; rintro e w' ⟨rfl, rfl⟩; rw [hw])
        simp only [Exit.jump]
        go_ret
        exact ⟨by rw [← HS.out, hs]; rfl, rfl⟩
      · have hs := skipW_step c hw
        go_wp2_with (go_at_call 250; refine (white_ok _ _).mono ?_; rintro e w' ⟨rfl, rfl⟩; rw [hw])
        go_step3
        refine ⟨rfl, ⟨rfl, m + 1, _, _, _, _, _, _, _, _, _, _, _, _, _, _, rfl, by omega, hs.symm.trans HS.out⟩, ?_⟩
        simp [intOf]; omega
    · have c' : ¬ (m : Int) < d.length := by omega
      have hs : skipW d m = m := skipW_stop (fun h => c h.1)
      go_wp2
      simp only [Exit.jump]
      go_ret
      exact ⟨by rw [← HS.out, hs]; rfl, rfl⟩
end Go.Proofs.YtgkljcmjnphpeaaGreatDoor
