/- Filter 4 read: a block of sort 0, whatever it comes to. -/
import Derived.Test.YtgkljcmjnphpeaaGreatDoorK11
import Derived.Test.YtgkljcmjnphpeaaGreatDoorK20
set_option linter.unusedVariables false
set_option linter.unusedSimpArgs false
namespace Go.Proofs.YtgkljcmjnphpeaaGreatDoor
open Go.RowKit
variable {B br bf bd off cap : Nat} {d : List Nat} {most : Nat} {fixed : List Value} {w : World} {p held left window : Nat} {ov : Value} {out : List Nat}
theorem take_zero (h : Rd B br bd off cap d most w p ov out) :
    Calls Tryz.prog 164 #[.pointer (some ⟨br, 0, none⟩), .int .i64 (0 : Nat)] w fun e w' =>
      ∃ a c, e = .returned (.slice (some a) 0 c) ∧ Rd B br bd off cap d most w' p ov out ∧ Kept 5 B [br] w w' := by
  have c0 := h.c0
  have c1 := h.c1
  have f1 := h.fz 1
  have b1 := h.cp
  have b2 := h.lc
  have b3 := h.lp
  have b4 := h.hb
  have t1 : (0 : Int) ≤ (d.length : Int) - (p : Int) := by omega
  by_cases cc : p < cap
  · go_enter Tryz.func164, Tryz.ntmps164
    go_wp2_with fail
    go_quiet ((go_at_call 163; exact Calls.quiet_of_same (must_yes _)))
    go_wp2_with fail
    go_quiet (fail)
    go_wp2
    go_ret
    exact ⟨⟨bd, off + p, none⟩, cap - p, rfl, (h.drewN _).set1 p b3, ((Kept.refl _ _ _ _).drewN _).setCell (by simp) _⟩
  · obtain rfl : p = cap := by omega
    go_enter Tryz.func164, Tryz.ntmps164
    go_wp2_with fail
    go_quiet ((go_at_call 163; exact Calls.quiet_of_same (must_yes _)))
    go_wp2_with fail
    go_quiet (fail)
    go_wp2
    go_ret
    exact ⟨⟨bd, off, none⟩, 0, rfl, (h.drewN _).set1 p b3, ((Kept.refl _ _ _ _).drewN _).setCell (by simp) _⟩
--STOP
theorem numBits_val : ∀ l : List Bool, Fo.numBits l.length (Fo.val l) = l
  | [] => rfl
  | b :: l => by
    simp only [List.length_cons, Fo.val, Fo.numBits]
    have e1 : (b.toNat + 2 * Fo.val l) % 2 = b.toNat := by cases b <;> simp <;> omega
    have e2 : (b.toNat + 2 * Fo.val l) / 2 = Fo.val l := by cases b <;> simp <;> omega
    rw [e1, e2, numBits_val l]
    cases b <;> rfl
theorem numBits_take (n : Nat) (r : List Bool) (h : n ≤ r.length) : Fo.numBits n (Fo.val (r.take n)) = r.take n := by
  have := numBits_val (r.take n)
  rwa [List.length_take, Nat.min_eq_left h] at this
theorem bytesAt_snoc (r : List Bool) (n : Nat) : Fo.bytesAt r (n + 1) = Fo.bytesAt r n ++ [Fo.val ((r.drop (8 * n)).take 8)] := by
  simp [Fo.bytesAt, List.range_succ]
theorem bytesAt_len (r : List Bool) (n : Nat) : (Fo.bytesAt r n).length = n := by simp [Fo.bytesAt]
theorem val8_lt (r : List Bool) : Fo.val (r.take 8) < 256 := by
  have hv := Fo.val_lt (r.take 8)
  have hl : (r.take 8).length ≤ 8 := by rw [List.length_take]; omega
  have h8 : 2 ^ (r.take 8).length ≤ 2 ^ 8 := Nat.pow_le_pow_right (by omega) hl
  have e8 : (2 : Nat) ^ 8 = 256 := by decide
  omega
theorem bytesAt_byte (r : List Bool) (n : Nat) : ∀ x ∈ Fo.bytesAt r n, x < 256 := by
  intro x hx
  simp only [Fo.bytesAt, List.mem_map] at hx
  obtain ⟨i, _, rfl⟩ := hx
  exact val8_lt _
theorem bits8_num (x : Nat) (h : x < 256) : Fo.bits8 x = Fo.numBits 8 x := by
  have : ∀ x : Fin 256, Fo.bits8 x.val = Fo.numBits 8 x.val := by decide +kernel
  exact this ⟨x, h⟩
theorem bitsOf_bytesAt (r : List Bool) : ∀ n, 8 * n ≤ r.length → Fo.bitsOf (Fo.bytesAt r n) = r.take (8 * n)
  | 0, _ => by simp [Fo.bytesAt, Fo.bitsOf]
  | n + 1, h => by
    have ih := bitsOf_bytesAt r n (by omega)
    rw [bytesAt_snoc]
    have e : Fo.bitsOf (Fo.bytesAt r n ++ [Fo.val ((r.drop (8 * n)).take 8)]) = Fo.bitsOf (Fo.bytesAt r n) ++ Fo.bits8 (Fo.val ((r.drop (8 * n)).take 8)) := by simp [Fo.bitsOf]
    rw [e, ih, bits8_num _ (val8_lt _), numBits_take 8 _ (by rw [List.length_drop]; omega)]
    rw [show 8 * (n + 1) = 8 * n + 8 by omega, List.take_add]
theorem nth_byte {D : List Nat} (h : ∀ x ∈ D, x < 256) (i : Nat) (hi : i < D.length) : nth D i < 256 := by
  have : nth D i = D[i] := by simp [nth, List.getElem?_eq_getElem hi]
  rw [this]; exact h _ (List.getElem_mem hi)
set_option maxRecDepth 100000 in
theorem stored_a {rest : List Bool} (h : Fl B br bf bd off cap d most fixed w rest window ov out) (hr : (rest.drop (rest.length % 8)).length < 16) :
    Calls Tryz.prog 222 #[.pointer (some ⟨bf, 0, none⟩)] w fun e w' => e = gaveUp 5 ∧ Kept 5 B [br, bf] w w' := by
  obtain ⟨R, hR⟩ : ∃ R, rest.drop (rest.length % 8) = R := ⟨_, rfl⟩
  rw [hR] at hr
  have HA := hide (align_ok h)
  rw [hR] at HA
  clear hR h
  go_enter Tryz.func222, Tryz.ntmps222
  go_wp2_with fail
  refine HA.out.mono ?_
  rintro e w1 ⟨rfl, ⟨p1, held1, hb1, hq1⟩, k1⟩
  have hf1 : Fl B br bf bd off cap d most fixed w1 R window ov out := ⟨p1, held1, 0, hb1, by omega, by rw [← hq1]; simp [bitsLeft, Fo.numBits]⟩
  clear hb1 hq1 HA
  have HB := hide (bits_none (w := w1.drew) 16 (by omega) hr hf1.drew)
  go_wp2_with fail
  refine wp_region_T (fun _ _ => True) (by kernel_rfl) ?_
  intro hD
  have hS : (fun (_ : Array Bool) (_ : World) => True) (Array.replicate 10 false) w1.drew := trivial
  refine wpAnyT_take (i := 0) (v := ?_) rfl (by kernel_rfl) (by kernel_rfl) (by kernel_rfl) (fun _ _ _ h => h) (fun _ _ h => h) (fun _ _ h => h) hD (Or.inl ⟨by rfl, ?_⟩) hS ?_
  rotate_left
  · intro W hW; go_simp; try (with_reducible rfl)
  clear hD hS; intro hD hS; (try simp only [Act.put, List.setIfInBounds_toArray, List.set_cons_zero, List.set_cons_succ])
  refine wpAnyT_take (i := 1) (v := ?_) rfl (by kernel_rfl) (by kernel_rfl) (by kernel_rfl) (fun _ _ _ h => h) (fun _ _ h => h) (fun _ _ h => h) hD (Or.inl ⟨by rfl, ?_⟩) hS ?_
  rotate_left
  · intro W hW; go_simp; try (with_reducible rfl)
  clear hD hS; intro hD hS; (try simp only [Act.put, List.setIfInBounds_toArray, List.set_cons_zero, List.set_cons_succ])
  refine wpAnyT_take (i := 2) (v := ?_) rfl (by kernel_rfl) (by kernel_rfl) (by kernel_rfl) (fun _ _ _ h => h) (fun _ _ h => h) (fun _ _ h => h) hD (Or.inl ⟨by rfl, ?_⟩) hS ?_
  rotate_left
  · intro W hW; go_simp; try (with_reducible rfl)
  clear hD hS; intro hD hS; (try simp only [Act.put, List.setIfInBounds_toArray, List.set_cons_zero, List.set_cons_succ])
  refine wpAnyT_take (i := 4) (v := ?_) rfl (by kernel_rfl) (by kernel_rfl) (by kernel_rfl) (fun _ _ _ h => h) (fun _ _ h => h) (fun _ _ h => h) hD (Or.inl ⟨by rfl, ?_⟩) hS ?_
  rotate_left
  · intro W hW; go_simp; try (with_reducible rfl)
  clear hD hS; intro hD hS; (try simp only [Act.put, List.setIfInBounds_toArray, List.set_cons_zero, List.set_cons_succ])
  refine wpAnyT_take (i := 5) (v := ?_) rfl (by kernel_rfl) (by kernel_rfl) (by kernel_rfl) (fun _ _ _ h => h) (fun _ _ h => h) (fun _ _ h => h) hD (Or.inl ⟨by rfl, ?_⟩) hS ?_
  rotate_left
  · intro W hW; go_simp; try (with_reducible rfl)
  clear hD hS; intro hD hS; (try simp only [Act.put, List.setIfInBounds_toArray, List.set_cons_zero, List.set_cons_succ])
  refine wpAnyT_take (i := 6) (v := ?_) rfl (by kernel_rfl) (by kernel_rfl) (by kernel_rfl) (fun _ _ _ h => h) (fun _ _ h => h) (fun _ _ h => h) hD (Or.inl ⟨by rfl, ?_⟩) hS ?_
  rotate_left
  · intro W hW; go_simp; try (with_reducible rfl)
  clear hD hS; intro hD hS; (try simp only [Act.put, List.setIfInBounds_toArray, List.set_cons_zero, List.set_cons_succ])
  refine wpAnyT_one (i := 3) (by kernel_rfl) rfl hD (fun K' hK => ?_)
  go_simp
  refine HB.out.mono ?_
  rintro e w7 ⟨rfl, k7⟩
  exact ⟨rfl, rfl, (k1.drew).trans k7⟩
set_option maxRecDepth 100000 in
theorem stored_b {rest : List Bool} (h : Fl B br bf bd off cap d most fixed w rest window ov out) (hr : 16 ≤ (rest.drop (rest.length % 8)).length) (hr2 : (rest.drop (rest.length % 8)).length < 32) :
    Calls Tryz.prog 222 #[.pointer (some ⟨bf, 0, none⟩)] w fun e w' => e = gaveUp 5 ∧ Kept 5 B [br, bf] w w' := by
  obtain ⟨R, hR⟩ : ∃ R, rest.drop (rest.length % 8) = R := ⟨_, rfl⟩
  rw [hR] at hr hr2
  have HA := hide (align_ok h)
  rw [hR] at HA
  clear hR h
  go_enter Tryz.func222, Tryz.ntmps222
  go_wp2_with fail
  refine HA.out.mono ?_
  rintro e w1 ⟨rfl, ⟨p1, held1, hb1, hq1⟩, k1⟩
  have hf1 : Fl B br bf bd off cap d most fixed w1 R window ov out := ⟨p1, held1, 0, hb1, by omega, by rw [← hq1]; simp [bitsLeft, Fo.numBits]⟩
  clear hb1 hq1 HA
  have HB := hide (bits_ok (w := w1.drew) 16 (by omega) hr hf1.drew)
  go_wp2_with fail
  refine wp_region_T (fun _ _ => True) (by kernel_rfl) ?_
  intro hD
  have hS : (fun (_ : Array Bool) (_ : World) => True) (Array.replicate 10 false) w1.drew := trivial
  refine wpAnyT_take (i := 0) (v := ?_) rfl (by kernel_rfl) (by kernel_rfl) (by kernel_rfl) (fun _ _ _ h => h) (fun _ _ h => h) (fun _ _ h => h) hD (Or.inl ⟨by rfl, ?_⟩) hS ?_
  rotate_left
  · intro W hW; go_simp; try (with_reducible rfl)
  clear hD hS; intro hD hS; (try simp only [Act.put, List.setIfInBounds_toArray, List.set_cons_zero, List.set_cons_succ])
  refine wpAnyT_take (i := 1) (v := ?_) rfl (by kernel_rfl) (by kernel_rfl) (by kernel_rfl) (fun _ _ _ h => h) (fun _ _ h => h) (fun _ _ h => h) hD (Or.inl ⟨by rfl, ?_⟩) hS ?_
  rotate_left
  · intro W hW; go_simp; try (with_reducible rfl)
  clear hD hS; intro hD hS; (try simp only [Act.put, List.setIfInBounds_toArray, List.set_cons_zero, List.set_cons_succ])
  refine wpAnyT_take (i := 2) (v := ?_) rfl (by kernel_rfl) (by kernel_rfl) (by kernel_rfl) (fun _ _ _ h => h) (fun _ _ h => h) (fun _ _ h => h) hD (Or.inl ⟨by rfl, ?_⟩) hS ?_
  rotate_left
  · intro W hW; go_simp; try (with_reducible rfl)
  clear hD hS; intro hD hS; (try simp only [Act.put, List.setIfInBounds_toArray, List.set_cons_zero, List.set_cons_succ])
  refine wpAnyT_take (i := 4) (v := ?_) rfl (by kernel_rfl) (by kernel_rfl) (by kernel_rfl) (fun _ _ _ h => h) (fun _ _ h => h) (fun _ _ h => h) hD (Or.inl ⟨by rfl, ?_⟩) hS ?_
  rotate_left
  · intro W hW; go_simp; try (with_reducible rfl)
  clear hD hS; intro hD hS; (try simp only [Act.put, List.setIfInBounds_toArray, List.set_cons_zero, List.set_cons_succ])
  refine wpAnyT_take (i := 5) (v := ?_) rfl (by kernel_rfl) (by kernel_rfl) (by kernel_rfl) (fun _ _ _ h => h) (fun _ _ h => h) (fun _ _ h => h) hD (Or.inl ⟨by rfl, ?_⟩) hS ?_
  rotate_left
  · intro W hW; go_simp; try (with_reducible rfl)
  clear hD hS; intro hD hS; (try simp only [Act.put, List.setIfInBounds_toArray, List.set_cons_zero, List.set_cons_succ])
  refine wpAnyT_take (i := 6) (v := ?_) rfl (by kernel_rfl) (by kernel_rfl) (by kernel_rfl) (fun _ _ _ h => h) (fun _ _ h => h) (fun _ _ h => h) hD (Or.inl ⟨by rfl, ?_⟩) hS ?_
  rotate_left
  · intro W hW; go_simp; try (with_reducible rfl)
  clear hD hS; intro hD hS; (try simp only [Act.put, List.setIfInBounds_toArray, List.set_cons_zero, List.set_cons_succ])
  refine wpAnyT_one (i := 3) (by kernel_rfl) rfl hD (fun K' hK => ?_)
  go_simp
  refine HB.out.mono ?_
  rintro e w7 ⟨rfl, hf7, k7⟩
  have HB2 := hide (bits_none 16 (by omega) (by rw [List.length_drop]; omega) hf7)
  refine hK.out _ _ trivial (fun hD2 hS2 => ?_)
  clear hD hS hK K'
  have hD := hD2
  have hS := hS2
  clear hD2 hS2
  (try simp only [Act.put, List.setIfInBounds_toArray, List.set_cons_zero, List.set_cons_succ])
  refine wpAnyT_one (i := 7) (by kernel_rfl) rfl hD (fun K' hK => ?_)
  go_simp
  refine HB2.out.mono ?_
  rintro e w8 ⟨rfl, k8⟩
  exact ⟨rfl, rfl, ((k1.drew).trans k7).trans k8⟩
set_option maxRecDepth 100000 in
set_option maxHeartbeats 1000000 in
theorem stored_c {rest : List Bool} (h : Fl B br bf bd off cap d most fixed w rest window ov out) {n m : Nat} (hr : 32 ≤ (rest.drop (rest.length % 8)).length) (hv1 : Fo.val ((rest.drop (rest.length % 8)).take 16) = n) (hv2 : Fo.val (((rest.drop (rest.length % 8)).drop 16).take 16) = m) (hn : n < 65536) (hm : m < 65536) (hne : n + m ≠ 65535) :
    Calls Tryz.prog 222 #[.pointer (some ⟨bf, 0, none⟩)] w fun e w' => e = gaveUp 5 ∧ Kept 5 B [br, bf] w w' := by
  obtain ⟨R, hR⟩ : ∃ R, rest.drop (rest.length % 8) = R := ⟨_, rfl⟩
  rw [hR] at hr hv1 hv2
  have HA := hide (align_ok h)
  rw [hR] at HA
  clear hR h
  go_enter Tryz.func222, Tryz.ntmps222
  go_wp2_with fail
  refine HA.out.mono ?_
  rintro e w1 ⟨rfl, ⟨p1, held1, hb1, hq1⟩, k1⟩
  have hf1 : Fl B br bf bd off cap d most fixed w1 R window ov out := ⟨p1, held1, 0, hb1, by omega, by rw [← hq1]; simp [bitsLeft, Fo.numBits]⟩
  clear hb1 hq1 HA
  have HB := hide (bits_ok (w := w1.drew) 16 (by omega) (show 16 ≤ R.length by omega) hf1.drew)
  have HV1 := hide hv1
  have HV2 := hide hv2
  rw [hv1] at HB
  clear hv1 hv2
  have tok : True := trivial
  go_wp2_with fail
  go_region_with (first | (go_at_call 221; have _t := tok; refine HB.out.mono ?_; rintro e w2 ⟨rfl, hf2, k2⟩; clear tok; have HB2 := hide (bits_ok 16 (by omega) (by rw [List.length_drop]; omega) hf2); rw [HV2.out] at HB2) | (go_at_call 221; refine HB2.out.mono ?_; rintro e w3 ⟨rfl, hf3, k3⟩))
  have kk := (k1.drew.trans k2).trans k3
  clear k1 k2 k3 hf1 hf2 HB HB2
  have e1 : ((m : Int) == 65535 - (n : Int)) = false := by simp; omega
  go_wp2_with fail
  refine (must_nob _ rfl _).mono ?_
  rintro e w' ⟨rfl, rfl⟩
  exact ⟨rfl, rfl, kk⟩
set_option maxRecDepth 100000 in
set_option maxHeartbeats 1000000 in
theorem stored_d {rest : List Bool} (h : Fl B br bf bd off cap d most fixed w rest window ov out) {n m : Nat} (hr : 32 ≤ (rest.drop (rest.length % 8)).length) (hv1 : Fo.val ((rest.drop (rest.length % 8)).take 16) = n) (hv2 : Fo.val (((rest.drop (rest.length % 8)).drop 16).take 16) = m) (hn : n < 65536) (hne : n + m = 65535) (hr8 : (rest.drop (rest.length % 8)).length % 8 = 0) (hlt : ((rest.drop (rest.length % 8)).drop 32).length < 8 * n) :
    Calls Tryz.prog 222 #[.pointer (some ⟨bf, 0, none⟩)] w fun e w' => e = gaveUp 5 ∧ Kept 5 B [br, bf] w w' := by
  obtain ⟨R, hR⟩ : ∃ R, rest.drop (rest.length % 8) = R := ⟨_, rfl⟩
  rw [hR] at hr hv1 hv2 hr8 hlt
  have HA := hide (align_ok h)
  rw [hR] at HA
  clear hR h
  go_enter Tryz.func222, Tryz.ntmps222
  go_wp2_with fail
  refine HA.out.mono ?_
  rintro e w1 ⟨rfl, ⟨p1, held1, hb1, hq1⟩, k1⟩
  have hf1 : Fl B br bf bd off cap d most fixed w1 R window ov out := ⟨p1, held1, 0, hb1, by omega, by rw [← hq1]; simp [bitsLeft, Fo.numBits]⟩
  clear hb1 hq1 HA
  rw [List.length_drop] at hlt
  have HB := hide (bits_ok (w := w1.drew) 16 (by omega) (show 16 ≤ R.length by omega) hf1.drew)
  have HV1 := hide hv1
  have HV2 := hide hv2
  rw [hv1] at HB
  clear hv1 hv2
  have tok : True := trivial
  go_wp2_with fail
  go_region_with (first | (go_at_call 221; have _t := tok; refine HB.out.mono ?_; rintro e w2 ⟨rfl, hf2, k2⟩; clear tok; have HB2 := hide (bits_ok 16 (by omega) (by rw [List.length_drop]; omega) hf2); rw [HV2.out] at HB2) | (go_at_call 221; refine HB2.out.mono ?_; rintro e w3 ⟨rfl, hf3, k3⟩))
  have kk := (k1.drew.trans k2).trans k3
  clear k1 k2 k3 hf1 hf2 HB HB2
  have e1 : (m : Int) = 65535 - (n : Int) := by omega
  rw [e1]
  go_wp2_with fail
  refine (must_yes _).mono ?_
  rintro e w' ⟨rfl, rfl⟩
  obtain ⟨p, held, hb, hq⟩ := hf3.whole (by rw [List.length_drop, List.length_drop]; omega)
  have hpn : d.length < p + n := by
    have := congrArg List.length hq
    rw [Fo.bitsOf_length, List.length_drop, List.length_drop, List.length_drop] at this
    omega
  have c0 := hb.c0
  have HT := hide (take_no (hb.rd.drewN 1) n (by omega) hpn)
  clear hq hf3
  go_wp2_with fail
  refine wp_region_T (Sst bf (.pointer (some ⟨br, 0, none⟩))) (by kernel_rfl) ?_
  intro hD
  have hS : Sst bf (.pointer (some ⟨br, 0, none⟩)) (Array.replicate 13 false) w'.drew := c0
  refine wpAnyT_take (i := 0) (v := ?_) rfl (by kernel_rfl) (by kernel_rfl) (by kernel_rfl) (fun _ _ _ h => h) (fun _ _ h => h) (fun _ _ h => h) hD (Or.inl ⟨by rfl, ?_⟩) hS ?_
  rotate_left
  · intro W hW; obtain ⟨_, _, _, f0⟩ := hW; unfold Sst at f0; go_simp; try (with_reducible rfl)
  clear hD hS; intro hD hS; (try simp only [Act.put, List.setIfInBounds_toArray, List.set_cons_zero, List.set_cons_succ])
  refine wpAnyT_take (i := 1) (v := ?_) rfl (by kernel_rfl) (by kernel_rfl) (by kernel_rfl) (fun _ _ _ h => h) (fun _ _ h => h) (fun _ _ h => h) hD (Or.inl ⟨by rfl, ?_⟩) hS ?_
  rotate_left
  · intro W hW; obtain ⟨_, _, _, f0⟩ := hW; unfold Sst at f0; go_simp; try (with_reducible rfl)
  clear hD hS; intro hD hS; (try simp only [Act.put, List.setIfInBounds_toArray, List.set_cons_zero, List.set_cons_succ])
  refine wpAnyT_take (i := 2) (v := ?_) rfl (by kernel_rfl) (by kernel_rfl) (by kernel_rfl) (fun _ _ _ h => h) (fun _ _ h => h) (fun _ _ h => h) hD (Or.inl ⟨by rfl, ?_⟩) hS ?_
  rotate_left
  · intro W hW; obtain ⟨_, _, _, f0⟩ := hW; unfold Sst at f0; go_simp; try (with_reducible rfl)
  clear hD hS; intro hD hS; (try simp only [Act.put, List.setIfInBounds_toArray, List.set_cons_zero, List.set_cons_succ])
  refine wpAnyT_take (i := 3) (v := ?_) rfl (by kernel_rfl) (by kernel_rfl) (by kernel_rfl) (fun _ _ _ h => h) (fun _ _ h => h) (fun _ _ h => h) hD (Or.inl ⟨by rfl, ?_⟩) hS ?_
  rotate_left
  · intro W hW; obtain ⟨_, _, _, f0⟩ := hW; unfold Sst at f0; go_simp; try (with_reducible rfl)
  clear hD hS; intro hD hS; (try simp only [Act.put, List.setIfInBounds_toArray, List.set_cons_zero, List.set_cons_succ])
  refine wpAnyT_take (i := 4) (v := ?_) rfl (by kernel_rfl) (by kernel_rfl) (by kernel_rfl) (fun _ _ _ h => h) (fun _ _ h => h) (fun _ _ h => h) hD (Or.inl ⟨by rfl, ?_⟩) hS ?_
  rotate_left
  · intro W hW; obtain ⟨_, _, _, f0⟩ := hW; unfold Sst at f0; go_simp; try (with_reducible rfl)
  clear hD hS; intro hD hS; (try simp only [Act.put, List.setIfInBounds_toArray, List.set_cons_zero, List.set_cons_succ])
  refine wpAnyT_take (i := 5) (v := ?_) rfl (by kernel_rfl) (by kernel_rfl) (by kernel_rfl) (fun _ _ _ h => h) (fun _ _ h => h) (fun _ _ h => h) hD (Or.inl ⟨by rfl, ?_⟩) hS ?_
  rotate_left
  · intro W hW; obtain ⟨_, _, _, f0⟩ := hW; unfold Sst at f0; go_simp; try (with_reducible rfl)
  clear hD hS; intro hD hS; (try simp only [Act.put, List.setIfInBounds_toArray, List.set_cons_zero, List.set_cons_succ])
  refine wpAnyT_take (i := 6) (v := ?_) rfl (by kernel_rfl) (by kernel_rfl) (by kernel_rfl) (fun _ _ _ h => h) (fun _ _ h => h) (fun _ _ h => h) hD (Or.inl ⟨by rfl, ?_⟩) hS ?_
  rotate_left
  · intro W hW; obtain ⟨_, _, _, f0⟩ := hW; unfold Sst at f0; go_simp; try (with_reducible rfl)
  clear hD hS; intro hD hS; (try simp only [Act.put, List.setIfInBounds_toArray, List.set_cons_zero, List.set_cons_succ])
  refine wpAnyT_take (i := 7) (v := ?_) rfl (by kernel_rfl) (by kernel_rfl) (by kernel_rfl) (fun _ _ _ h => h) (fun _ _ h => h) (fun _ _ h => h) hD (Or.inl ⟨by rfl, ?_⟩) hS ?_
  rotate_left
  · intro W hW; obtain ⟨_, _, _, f0⟩ := hW; unfold Sst at f0; go_simp; try (with_reducible rfl)
  clear hD hS; intro hD hS; (try simp only [Act.put, List.setIfInBounds_toArray, List.set_cons_zero, List.set_cons_succ])
  refine wpAnyT_take (i := 8) (v := ?_) rfl (by kernel_rfl) (by kernel_rfl) (by kernel_rfl) (fun _ _ _ h => h) (fun _ _ h => h) (fun _ _ h => h) hD (Or.inl ⟨by rfl, ?_⟩) hS ?_
  rotate_left
  · intro W hW; obtain ⟨_, _, _, f0⟩ := hW; unfold Sst at f0; go_simp; try (with_reducible rfl)
  clear hD hS; intro hD hS; (try simp only [Act.put, List.setIfInBounds_toArray, List.set_cons_zero, List.set_cons_succ])
  refine wpAnyT_take (i := 9) (v := ?_) rfl (by kernel_rfl) (by kernel_rfl) (by kernel_rfl) (fun _ _ _ h => h) (fun _ _ h => h) (fun _ _ h => h) hD (Or.inl ⟨by rfl, ?_⟩) hS ?_
  rotate_left
  · intro W hW; obtain ⟨_, _, _, f0⟩ := hW; unfold Sst at f0; go_simp; try (with_reducible rfl)
  clear hD hS; intro hD hS; (try simp only [Act.put, List.setIfInBounds_toArray, List.set_cons_zero, List.set_cons_succ])
  refine wpAnyT_take (i := 10) (v := ?_) rfl (by kernel_rfl) (by kernel_rfl) (by kernel_rfl) (fun _ _ _ h => h) (fun _ _ h => h) (fun _ _ h => h) hD (Or.inl ⟨by rfl, ?_⟩) hS ?_
  rotate_left
  · intro W hW; obtain ⟨_, _, _, f0⟩ := hW; unfold Sst at f0; go_simp; try (with_reducible rfl)
  clear hD hS; intro hD hS; (try simp only [Act.put, List.setIfInBounds_toArray, List.set_cons_zero, List.set_cons_succ])
  refine wpAnyT_one (i := 11) (by kernel_rfl) rfl hD (fun K' hK => ?_)
  go_simp
  refine HT.out.mono ?_
  rintro e w4 ⟨rfl, q, rfl⟩
  exact ⟨rfl, rfl, (kk.drewN 1).drewN q⟩
set_option maxRecDepth 100000 in
set_option maxHeartbeats 1000000 in
theorem stored_e {rest : List Bool} (h : Fl B br bf bd off cap d most fixed w rest window ov out) {m : Nat} (hr : 32 ≤ (rest.drop (rest.length % 8)).length) (hv1 : Fo.val ((rest.drop (rest.length % 8)).take 16) = 0) (hv2 : Fo.val (((rest.drop (rest.length % 8)).drop 16).take 16) = m) (hne : m = 65535) (hr8 : (rest.drop (rest.length % 8)).length % 8 = 0) :
    Calls Tryz.prog 222 #[.pointer (some ⟨bf, 0, none⟩)] w fun e w' => e = .returned (.tuple #[]) ∧ ∃ ov', Fl B br bf bd off cap d most fixed w' ((rest.drop (rest.length % 8)).drop 32) window ov' out ∧ Kept 5 B [br, bf] w w' := by
  obtain ⟨R, hR⟩ : ∃ R, rest.drop (rest.length % 8) = R := ⟨_, rfl⟩
  rw [hR] at hr hv1 hv2 hr8 ⊢
  have HA := hide (align_ok h)
  rw [hR] at HA
  clear hR h
  go_enter Tryz.func222, Tryz.ntmps222
  go_wp2_with fail
  refine HA.out.mono ?_
  rintro e w1 ⟨rfl, ⟨p1, held1, hb1, hq1⟩, k1⟩
  have hf1 : Fl B br bf bd off cap d most fixed w1 R window ov out := ⟨p1, held1, 0, hb1, by omega, by rw [← hq1]; simp [bitsLeft, Fo.numBits]⟩
  clear hb1 hq1 HA
  have HB := hide (bits_ok (w := w1.drew) 16 (by omega) (show 16 ≤ R.length by omega) hf1.drew)
  have HV1 := hide hv1
  have HV2 := hide hv2
  rw [hv1] at HB
  clear hv1 hv2
  have tok : True := trivial
  go_wp2_with fail
  go_region_with (first | (go_at_call 221; have _t := tok; refine HB.out.mono ?_; rintro e w2 ⟨rfl, hf2, k2⟩; clear tok; have HB2 := hide (bits_ok 16 (by omega) (by rw [List.length_drop]; omega) hf2); rw [HV2.out] at HB2) | (go_at_call 221; refine HB2.out.mono ?_; rintro e w3 ⟨rfl, hf3, k3⟩))
  have kk := (k1.drew.trans k2).trans k3
  clear k1 k2 k3 hf1 hf2 HB HB2
  subst hne
  go_wp2_with fail
  refine (must_yes _).mono ?_
  rintro e w' ⟨rfl, rfl⟩
  rw [List.drop_drop] at hf3
  obtain ⟨p, held, hb, hq⟩ := hf3.whole (by rw [List.length_drop]; omega)
  have HQ := hide hq
  have c0 := hb.c0
  clear hq hf3
  have HT := hide (take_zero (hb.rd.drewN 1))
  go_wp2_with fail
  go_region_with (first | (go_at_call 164; refine HT.out.mono ?_; rintro e w4 ⟨ta, tc, rfl, r4, k4⟩; have h4 := hb.rdKept r4 (((Kept.refl _ _ _ _).drewN 1).trans k4); have c4 := h4.c0) | (go_at_call 213; refine (put_ok r4 [] ta tc (by simpa using r4.lo) (by have := r4.sz; omega) (fun i hi => (by cases hi))).mono ?_; rintro e w5 ⟨rfl, ov5, r5, k5⟩))
  all_goals go_wp2
  all_goals go_end0
  all_goals rw [List.append_nil] at r5
  all_goals exact ⟨rfl, ov5, ⟨p, held, 0, h4.rdKept r5 k5, by omega, by rw [← HQ.out]; simp [bitsLeft, Fo.numBits]⟩, (kk.drewN 1).trans ((k4.trans k5).mono (by simp))⟩
theorem stored_any {rest : List Bool} (h : Fl B br bf bd off cap d most fixed w rest window ov out) {res : Except Nat (List Bool × List Nat)} (hres : Fo.storedDec most rest out = res) :
    Calls Tryz.prog 222 #[.pointer (some ⟨bf, 0, none⟩)] w (FRes B br bf bd off cap d most fixed window w (.tuple #[]) res) := by
  have hlo : out.length ≤ most := by obtain ⟨p, held, left, hb, _, _⟩ := h; exact hb.rd.lo
  have hr8 : (rest.drop (rest.length % 8)).length % 8 = 0 := by rw [List.length_drop]; omega
  unfold Fo.storedDec at hres
  by_cases c1 : (rest.drop (rest.length % 8)).length < 32
  · rw [if_pos c1] at hres
    subst hres
    by_cases c0 : (rest.drop (rest.length % 8)).length < 16
    · exact stored_a h c0
    · exact stored_b h (by omega) c1
  rw [if_neg c1] at hres
  have hn16 : ∀ r : List Bool, Fo.val (r.take 16) < 65536 := fun r => by
    have hv := Fo.val_lt (r.take 16)
    have hl : (r.take 16).length ≤ 16 := by rw [List.length_take]; omega
    have h8 : 2 ^ (r.take 16).length ≤ 2 ^ 16 := Nat.pow_le_pow_right (by omega) hl
    have e8 : (2 : Nat) ^ 16 = 65536 := by decide
    omega
  have hn := hn16 (rest.drop (rest.length % 8))
  have hm := hn16 ((rest.drop (rest.length % 8)).drop 16)
  obtain ⟨n, en⟩ : ∃ n, Fo.val ((rest.drop (rest.length % 8)).take 16) = n := ⟨_, rfl⟩
  obtain ⟨m, em⟩ : ∃ m, Fo.val (((rest.drop (rest.length % 8)).drop 16).take 16) = m := ⟨_, rfl⟩
  rw [en] at hn hres
  rw [em] at hm hres
  by_cases c2 : n + m ≠ 65535
  · rw [if_pos (Or.inl c2)] at hres
    subst hres
    exact stored_c h (by omega) en em hn hm c2
  by_cases c3 : ((rest.drop (rest.length % 8)).drop 32).length < 8 * n
  · rw [if_pos (Or.inr c3)] at hres
    subst hres
    exact stored_d h (by omega) en em hn (by omega) hr8 c3
  rw [if_neg (fun h => h.elim c2 c3)] at hres
  by_cases c4 : n = 0
  · subst c4
    rw [if_pos (by omega)] at hres
    subst hres
    refine (stored_e h (by omega) en em (by omega) hr8).mono ?_
    rintro e w' ⟨rfl, ov', hf, k⟩
    refine ⟨rfl, ov', ?_, k⟩
    simpa [Fo.bytesAt] using hf
  have hD := bytesAt_byte ((rest.drop (rest.length % 8)).drop 32) n
  have hDl := bytesAt_len ((rest.drop (rest.length % 8)).drop 32) n
  have hsp : rest.drop (rest.length % 8) = Fo.numBits 16 (Fo.bytesAt ((rest.drop (rest.length % 8)).drop 32) n).length ++ (Fo.numBits 16 (65535 - (Fo.bytesAt ((rest.drop (rest.length % 8)).drop 32) n).length) ++ (Fo.bitsOf (Fo.bytesAt ((rest.drop (rest.length % 8)).drop 32) n) ++ ((rest.drop (rest.length % 8)).drop 32).drop (8 * n))) := by
    rw [hDl, bitsOf_bytesAt _ n (by omega), List.take_append_drop, show 65535 - n = m by omega, ← em, ← en]
    generalize rest.drop (rest.length % 8) = R at *
    rw [numBits_take 16 R (by omega), numBits_take 16 (R.drop 16) (by rw [List.length_drop]; omega), show (32 : Nat) = 16 + 16 from rfl, ← List.drop_drop, List.take_append_drop, List.take_append_drop]
  have h8 : (((rest.drop (rest.length % 8)).drop 32).drop (8 * n)).length % 8 = 0 := by
    rw [List.length_drop, List.length_drop]; rw [List.length_drop] at c3; omega
  by_cases c5 : out.length + n ≤ most
  · rw [if_pos c5] at hres
    subst hres
    exact stored_ok _ (by omega) (by omega) (fun i hi => nth_byte hD i hi) h hsp h8 (by omega)
  · rw [if_neg c5] at hres
    subst hres
    exact stored_no _ (by omega) (by omega) (fun i hi => nth_byte hD i hi) h hsp h8 (by omega)
end Go.Proofs.YtgkljcmjnphpeaaGreatDoor
