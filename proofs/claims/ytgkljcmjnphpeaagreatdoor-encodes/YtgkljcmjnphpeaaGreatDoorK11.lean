/- Filter 4 read: a part that gives up; a block's parts, whatever they come to. -/
import Derived.Test.YtgkljcmjnphpeaaGreatDoorK10
set_option linter.unusedVariables false
set_option linter.unusedSimpArgs false
namespace Go.Proofs.YtgkljcmjnphpeaaGreatDoor
open Go.RowKit
variable {B br bf bd off cap : Nat} {d : List Nat} {most : Nat} {fixed : List Value} {w : World} {p held left window : Nat} {ov : Value} {out : List Nat}
theorem take_none {n : Nat} {r : List Bool} (h : Fo.take n r = none) : r.length < n := by
  unfold Fo.take at h
  split at h
  · cases h
  · omega
set_option maxRecDepth 100000 in
theorem part_a (bc oc : Nat) (c : Fo.Codes) (hc : CodesOk c) (hC : Codes4 B br bf bd off cap d most fixed window bc oc c w) {rest : List Bool} (h : Fl B br bf bd off cap d most fixed w rest window ov out)
    (hs : Fo.sym c.cs c.ss rest = none) :
    Calls Tryz.prog 278 #[.pointer (some ⟨bf, 0, none⟩), .pointer (some ⟨bc, oc, none⟩)] w fun e w' => e = gaveUp 5 ∧ Kept 5 B [br, bf] w w' := by
  have HS := hide (symbol_none (w := w.drew) bc oc c.cs c.ss hc.s1 hc.l1 (fun w' r hf k => (hC w' r _ _ hf (((Kept.refl _ _ _ _).drew).trans k)).1) hs h.drew)
  clear hs
  go_enter Tryz.func278, Tryz.ntmps278
  go_wp2_with fail
  refine wp_region_T (fun _ _ => True) (by kernel_rfl) ?_
  intro hD
  have hS : (fun (_ : Array Bool) (_ : World) => True) (Array.replicate 8 false) w.drew := trivial
  refine wpAnyT_take (i := 0) (v := ?_) rfl (by kernel_rfl) (by kernel_rfl) (by kernel_rfl) (fun _ _ _ h => h) (fun _ _ h => h) (fun _ _ h => h) hD (Or.inl ⟨by rfl, ?_⟩) hS ?_
  rotate_left
  · intro W hW; go_simp; try (with_reducible rfl)
  clear hD hS; intro hD hS; (try simp only [Act.put, List.setIfInBounds_toArray, List.set_cons_zero, List.set_cons_succ])
  refine wpAnyT_take (i := 1) (v := ?_) rfl (by kernel_rfl) (by kernel_rfl) (by kernel_rfl) (fun _ _ _ h => h) (fun _ _ h => h) (fun _ _ h => h) hD (Or.inl ⟨by rfl, ?_⟩) hS ?_
  rotate_left
  · intro W hW; go_simp; try (with_reducible rfl)
  clear hD hS; intro hD hS; (try simp only [Act.put, List.setIfInBounds_toArray, List.set_cons_zero, List.set_cons_succ])
  refine wpAnyT_take (i := 2) (v := ?_) rfl (by kernel_rfl) (by kernel_rfl) (by kernel_rfl) (fun _ _ _ h => h) (fun _ _ h => h) (fun _ _ h => h) hD (Or.inl ⟨by rfl, ?_⟩) hS ?_
  rotate_left
  · intro W hW; go_simp; try (with_reducible rfl)
  clear hD hS; intro hD hS; (try simp only [Act.put, List.setIfInBounds_toArray, List.set_cons_zero, List.set_cons_succ])
  refine wpAnyT_take (i := 3) (v := ?_) rfl (by kernel_rfl) (by kernel_rfl) (by kernel_rfl) (fun _ _ _ h => h) (fun _ _ h => h) (fun _ _ h => h) hD (Or.inl ⟨by rfl, ?_⟩) hS ?_
  rotate_left
  · intro W hW; go_simp; try (with_reducible rfl)
  clear hD hS; intro hD hS; (try simp only [Act.put, List.setIfInBounds_toArray, List.set_cons_zero, List.set_cons_succ])
  refine wpAnyT_take (i := 4) (v := ?_) rfl (by kernel_rfl) (by kernel_rfl) (by kernel_rfl) (fun _ _ _ h => h) (fun _ _ h => h) (fun _ _ h => h) hD (Or.inl ⟨by rfl, ?_⟩) hS ?_
  rotate_left
  · intro W hW; go_simp; try (with_reducible rfl)
  clear hD hS; intro hD hS; (try simp only [Act.put, List.setIfInBounds_toArray, List.set_cons_zero, List.set_cons_succ])
  refine wpAnyT_take (i := 5) (v := ?_) rfl (by kernel_rfl) (by kernel_rfl) (by kernel_rfl) (fun _ _ _ h => h) (fun _ _ h => h) (fun _ _ h => h) hD (Or.inl ⟨by rfl, ?_⟩) hS ?_
  rotate_left
  · intro W hW; go_simp; try (with_reducible rfl)
  clear hD hS; intro hD hS; (try simp only [Act.put, List.setIfInBounds_toArray, List.set_cons_zero, List.set_cons_succ])
  refine wpAnyT_one (i := 6) (by kernel_rfl) rfl hD (fun K' hK => ?_)
  go_simp
  refine HS.out.mono ?_
  rintro e w7 ⟨rfl, k7⟩
  exact ⟨rfl, rfl, ((Kept.refl _ _ _ _).drew).trans k7⟩
set_option maxRecDepth 100000 in
theorem part_b (bc oc : Nat) (c : Fo.Codes) (hc : CodesOk c) (hC : Codes4 B br bf bd off cap d most fixed window bc oc c w) {rest r1 : List Bool} (h : Fl B br bf bd off cap d most fixed w rest window ov out)
    (s : Nat) (hs : Fo.sym c.cs c.ss rest = some (s, r1)) (a1 : 285 < s) :
    Calls Tryz.prog 278 #[.pointer (some ⟨bf, 0, none⟩), .pointer (some ⟨bc, oc, none⟩)] w fun e w' => e = gaveUp 5 ∧ Kept 5 B [br, bf] w w' := by
  have HS := hide hs
  clear hs
  have a1' : ¬ (s : Int) < 256 := by omega
  have e1 : ((s : Int) == 256) = false := by simp; omega
  go_enter Tryz.func278, Tryz.ntmps278
  go_wp2_with fail
  go_region_with (go_at_call 313; refine (symbol_ok bc oc c.cs c.ss hc.s1 hc.l1 (fun w' r hf k => (hC w' r _ _ hf (((Kept.refl _ _ _ _).drew).trans k)).1) HS.out h.drew).mono ?_; rintro e w1 ⟨rfl, hf1, k1⟩)
  have kk := ((Kept.refl 5 B [br, bf] w).drew).trans k1
  clear k1
  go_wp2_with fail
  refine (within_int_no _ _ _ _ (Or.inr (by omega))).mono ?_
  rintro e w' ⟨rfl, rfl⟩
  go_wp2_with fail
  refine (must_nob _ rfl _).mono ?_
  rintro e w' ⟨rfl, rfl⟩
  exact ⟨rfl, rfl, kk⟩
set_option maxRecDepth 100000 in
set_option maxHeartbeats 1000000 in
theorem part_c (bc oc : Nat) (c : Fo.Codes) (hc : CodesOk c) (hC : Codes4 B br bf bd off cap d most fixed window bc oc c w) {rest r1 : List Bool} (h : Fl B br bf bd off cap d most fixed w rest window ov out)
    (s : Nat) (hs : Fo.sym c.cs c.ss rest = some (s, r1)) (a1 : 257 ≤ s) (a2 : s ≤ 285) (hx : Fo.take (Fo.lenSpan s).2 r1 = none) :
    Calls Tryz.prog 278 #[.pointer (some ⟨bf, 0, none⟩), .pointer (some ⟨bc, oc, none⟩)] w fun e w' => e = gaveUp 5 ∧ Kept 5 B [br, bf] w w' := by
  have HS := hide hs
  have l1 := lenSpan_le ⟨s, by omega⟩ a1
  simp only [] at l1
  have L1 := hide l1
  clear hs l1
  have a1' : (257 : Int) ≤ (s : Int) := by omega
  have a2' : (s : Int) ≤ 285 := by omega
  have e1 : ((s : Int) == 256) = false := by simp; omega
  have HX := hide (take_none hx)
  clear hx
  go_enter Tryz.func278, Tryz.ntmps278
  go_wp2_with fail
  go_region_with (go_at_call 313; refine (symbol_ok bc oc c.cs c.ss hc.s1 hc.l1 (fun w' r hf k => (hC w' r _ _ hf (((Kept.refl _ _ _ _).drew).trans k)).1) HS.out h.drew).mono ?_; rintro e w1 ⟨rfl, hf1, k1⟩)
  have kk := ((Kept.refl 5 B [br, bf] w).drew).trans k1
  clear k1
  go_wp2_with fail
  refine (within_int_yes _ _ _ _ a1' a2').mono ?_
  rintro e w' ⟨rfl, rfl⟩
  go_wp2_with fail
  refine (must_yes _).mono ?_
  rintro e w' ⟨rfl, rfl⟩
  go_wp2_with fail
  refine (lengthSpan_ok s a1 a2 _).mono ?_
  rintro e w2 ⟨rfl, o2, rfl⟩
  go_wp2_with fail
  refine (within_none (Fo.lenSpan s) (by have := L1.out; omega) (by have := L1.out; omega) HX.out (hf1.alloc o2)).mono ?_
  rintro e w3 ⟨rfl, k3⟩
  exact ⟨rfl, rfl, (kk.alloc o2).trans k3⟩
set_option maxRecDepth 100000 in
set_option maxHeartbeats 1000000 in
theorem part_d (bc oc : Nat) (c : Fo.Codes) (hc : CodesOk c) (hC : Codes4 B br bf bd off cap d most fixed window bc oc c w) {rest r1 r2 : List Bool} (h : Fl B br bf bd off cap d most fixed w rest window ov out)
    (s x : Nat) (hs : Fo.sym c.cs c.ss rest = some (s, r1)) (a1 : 257 ≤ s) (a2 : s ≤ 285) (hx : Fo.take (Fo.lenSpan s).2 r1 = some (x, r2)) (ht : Fo.sym c.cd c.sd r2 = none) :
    Calls Tryz.prog 278 #[.pointer (some ⟨bf, 0, none⟩), .pointer (some ⟨bc, oc, none⟩)] w fun e w' => e = gaveUp 5 ∧ Kept 5 B [br, bf] w w' := by
  have HS := hide hs
  have l1 := lenSpan_le ⟨s, by omega⟩ a1
  simp only [] at l1
  have L1 := hide l1
  clear hs l1
  have a1' : (257 : Int) ≤ (s : Int) := by omega
  have a2' : (s : Int) ≤ 285 := by omega
  have e1 : ((s : Int) == 256) = false := by simp; omega
  obtain ⟨x1, x2, x3⟩ := Fo.take_rest hx
  have X1 := hide x1
  have X2 := hide x2
  have X3 := hide x3
  clear hx x1 x2 x3
  have HT := hide ht
  clear ht
  go_enter Tryz.func278, Tryz.ntmps278
  go_wp2_with fail
  go_region_with (go_at_call 313; refine (symbol_ok bc oc c.cs c.ss hc.s1 hc.l1 (fun w' r hf k => (hC w' r _ _ hf (((Kept.refl _ _ _ _).drew).trans k)).1) HS.out h.drew).mono ?_; rintro e w1 ⟨rfl, hf1, k1⟩)
  have kk := ((Kept.refl 5 B [br, bf] w).drew).trans k1
  clear k1
  go_wp2_with fail
  refine (within_int_yes _ _ _ _ a1' a2').mono ?_
  rintro e w' ⟨rfl, rfl⟩
  go_wp2_with fail
  refine (must_yes _).mono ?_
  rintro e w' ⟨rfl, rfl⟩
  go_wp2_with fail
  refine (lengthSpan_ok s a1 a2 _).mono ?_
  rintro e w2 ⟨rfl, o2, rfl⟩
  go_wp2_with fail
  refine (within_ok (Fo.lenSpan s) (by have := L1.out; omega) (by have := L1.out; omega) X1.out (hf1.alloc o2)).mono ?_
  rintro e w3 ⟨rfl, hf3, k3⟩
  rw [← X3.out] at hf3
  have kk3 := (kk.alloc o2).trans k3
  clear kk k3
  rw [← X2.out]
  have hxl : x < 1000 := by
    have e1 := X2.out
    have e2 := Fo.val_lt (r1.take (Fo.lenSpan s).2)
    rw [← e1, List.length_take, Nat.min_eq_left X1.out] at e2
    have : 2 ^ (Fo.lenSpan s).2 ≤ 2 ^ 5 := Nat.pow_le_pow_right (by omega) L1.out.1
    omega
  have HSN := hide (symbol_none (w := w3.drew) bc (oc + 17) c.cd c.sd hc.s2 hc.l2 (fun w' r hf k => (hC w' r _ _ hf ((kk3.drew).trans k)).2) HT.out hf3.drew)
  go_wp2_with fail
  refine wp_region_T (fun _ _ => True) (by kernel_rfl) ?_
  intro hD
  have hS : (fun (_ : Array Bool) (_ : World) => True) (Array.replicate 8 false) w3.drew := trivial
  refine wpAnyT_take (i := 0) (v := ?_) rfl (by kernel_rfl) (by kernel_rfl) (by kernel_rfl) (fun _ _ _ h => h) (fun _ _ h => h) (fun _ _ h => h) hD (Or.inl ⟨by rfl, ?_⟩) hS ?_
  rotate_left
  · intro W hW; go_simp; try (with_reducible rfl)
  clear hD hS; intro hD hS; (try simp only [Act.put, List.setIfInBounds_toArray, List.set_cons_zero, List.set_cons_succ])
  refine wpAnyT_take (i := 1) (v := ?_) rfl (by kernel_rfl) (by kernel_rfl) (by kernel_rfl) (fun _ _ _ h => h) (fun _ _ h => h) (fun _ _ h => h) hD (Or.inl ⟨by rfl, ?_⟩) hS ?_
  rotate_left
  · intro W hW; go_simp; try (with_reducible rfl)
  clear hD hS; intro hD hS; (try simp only [Act.put, List.setIfInBounds_toArray, List.set_cons_zero, List.set_cons_succ])
  refine wpAnyT_take (i := 2) (v := ?_) rfl (by kernel_rfl) (by kernel_rfl) (by kernel_rfl) (fun _ _ _ h => h) (fun _ _ h => h) (fun _ _ h => h) hD (Or.inl ⟨by rfl, ?_⟩) hS ?_
  rotate_left
  · intro W hW; go_simp; try (with_reducible rfl)
  clear hD hS; intro hD hS; (try simp only [Act.put, List.setIfInBounds_toArray, List.set_cons_zero, List.set_cons_succ])
  refine wpAnyT_take (i := 3) (v := ?_) rfl (by kernel_rfl) (by kernel_rfl) (by kernel_rfl) (fun _ _ _ h => h) (fun _ _ h => h) (fun _ _ h => h) hD (Or.inl ⟨by rfl, ?_⟩) hS ?_
  rotate_left
  · intro W hW; go_simp; try (with_reducible rfl)
  clear hD hS; intro hD hS; (try simp only [Act.put, List.setIfInBounds_toArray, List.set_cons_zero, List.set_cons_succ])
  refine wpAnyT_take (i := 4) (v := ?_) rfl (by kernel_rfl) (by kernel_rfl) (by kernel_rfl) (fun _ _ _ h => h) (fun _ _ h => h) (fun _ _ h => h) hD (Or.inl ⟨by rfl, ?_⟩) hS ?_
  rotate_left
  · intro W hW; go_simp; try (with_reducible rfl)
  clear hD hS; intro hD hS; (try simp only [Act.put, List.setIfInBounds_toArray, List.set_cons_zero, List.set_cons_succ])
  refine wpAnyT_take (i := 5) (v := ?_) rfl (by kernel_rfl) (by kernel_rfl) (by kernel_rfl) (fun _ _ _ h => h) (fun _ _ h => h) (fun _ _ h => h) hD (Or.inl ⟨by rfl, ?_⟩) hS ?_
  rotate_left
  · intro W hW; go_simp; try (with_reducible rfl)
  clear hD hS; intro hD hS; (try simp only [Act.put, List.setIfInBounds_toArray, List.set_cons_zero, List.set_cons_succ])
  refine wpAnyT_one (i := 6) (by kernel_rfl) rfl hD (fun K' hK => ?_)
  go_simp
  refine HSN.out.mono ?_
  rintro e w7 ⟨rfl, k7⟩
  exact ⟨rfl, rfl, (kk3.drew).trans k7⟩
set_option maxRecDepth 100000 in
set_option maxHeartbeats 1000000 in
theorem part_e (bc oc : Nat) (c : Fo.Codes) (hc : CodesOk c) (hC : Codes4 B br bf bd off cap d most fixed window bc oc c w) {rest r1 r2 r3 : List Bool} (h : Fl B br bf bd off cap d most fixed w rest window ov out)
    (s x t : Nat) (hs : Fo.sym c.cs c.ss rest = some (s, r1)) (a1 : 257 ≤ s) (a2 : s ≤ 285) (hx : Fo.take (Fo.lenSpan s).2 r1 = some (x, r2)) (ht : Fo.sym c.cd c.sd r2 = some (t, r3)) (a3 : 29 < t) :
    Calls Tryz.prog 278 #[.pointer (some ⟨bf, 0, none⟩), .pointer (some ⟨bc, oc, none⟩)] w fun e w' => e = gaveUp 5 ∧ Kept 5 B [br, bf] w w' := by
  have HS := hide hs
  have l1 := lenSpan_le ⟨s, by omega⟩ a1
  simp only [] at l1
  have L1 := hide l1
  clear hs l1
  have a1' : (257 : Int) ≤ (s : Int) := by omega
  have a2' : (s : Int) ≤ 285 := by omega
  have e1 : ((s : Int) == 256) = false := by simp; omega
  obtain ⟨x1, x2, x3⟩ := Fo.take_rest hx
  have X1 := hide x1
  have X2 := hide x2
  have X3 := hide x3
  clear hx x1 x2 x3
  have HT := hide ht
  clear ht
  go_enter Tryz.func278, Tryz.ntmps278
  go_wp2_with fail
  go_region_with (go_at_call 313; refine (symbol_ok bc oc c.cs c.ss hc.s1 hc.l1 (fun w' r hf k => (hC w' r _ _ hf (((Kept.refl _ _ _ _).drew).trans k)).1) HS.out h.drew).mono ?_; rintro e w1 ⟨rfl, hf1, k1⟩)
  have kk := ((Kept.refl 5 B [br, bf] w).drew).trans k1
  clear k1
  go_wp2_with fail
  refine (within_int_yes _ _ _ _ a1' a2').mono ?_
  rintro e w' ⟨rfl, rfl⟩
  go_wp2_with fail
  refine (must_yes _).mono ?_
  rintro e w' ⟨rfl, rfl⟩
  go_wp2_with fail
  refine (lengthSpan_ok s a1 a2 _).mono ?_
  rintro e w2 ⟨rfl, o2, rfl⟩
  go_wp2_with fail
  refine (within_ok (Fo.lenSpan s) (by have := L1.out; omega) (by have := L1.out; omega) X1.out (hf1.alloc o2)).mono ?_
  rintro e w3 ⟨rfl, hf3, k3⟩
  rw [← X3.out] at hf3
  have kk3 := (kk.alloc o2).trans k3
  clear kk k3
  rw [← X2.out]
  have hxl : x < 1000 := by
    have e1 := X2.out
    have e2 := Fo.val_lt (r1.take (Fo.lenSpan s).2)
    rw [← e1, List.length_take, Nat.min_eq_left X1.out] at e2
    have : 2 ^ (Fo.lenSpan s).2 ≤ 2 ^ 5 := Nat.pow_le_pow_right (by omega) L1.out.1
    omega
  go_wp2_with fail
  go_region_with (go_at_call 313; refine (symbol_ok bc (oc + 17) c.cd c.sd hc.s2 hc.l2 (fun w' r hf k => (hC w' r _ _ hf ((kk3.drew).trans k)).2) HT.out hf3.drew).mono ?_; rintro e w4 ⟨rfl, hf4, k4⟩)
  have kk4 := (kk3.drew).trans k4
  clear kk3 k4
  go_wp2_with fail
  refine (within_int_no _ _ _ _ (Or.inr (by omega))).mono ?_
  rintro e w' ⟨rfl, rfl⟩
  go_wp2_with fail
  refine (must_nob _ rfl _).mono ?_
  rintro e w' ⟨rfl, rfl⟩
  exact ⟨rfl, rfl, kk4⟩
set_option maxRecDepth 100000 in
set_option maxHeartbeats 1000000 in
theorem part_f (bc oc : Nat) (c : Fo.Codes) (hc : CodesOk c) (hC : Codes4 B br bf bd off cap d most fixed window bc oc c w) {rest r1 r2 r3 : List Bool} (h : Fl B br bf bd off cap d most fixed w rest window ov out)
    (s x t : Nat) (hs : Fo.sym c.cs c.ss rest = some (s, r1)) (a1 : 257 ≤ s) (a2 : s ≤ 285) (hx : Fo.take (Fo.lenSpan s).2 r1 = some (x, r2)) (ht : Fo.sym c.cd c.sd r2 = some (t, r3)) (a3 : t ≤ 29) (hy : Fo.take (Fo.distSpan t).2 r3 = none) :
    Calls Tryz.prog 278 #[.pointer (some ⟨bf, 0, none⟩), .pointer (some ⟨bc, oc, none⟩)] w fun e w' => e = gaveUp 5 ∧ Kept 5 B [br, bf] w w' := by
  have HS := hide hs
  have l1 := lenSpan_le ⟨s, by omega⟩ a1
  simp only [] at l1
  have L1 := hide l1
  clear hs l1
  have a1' : (257 : Int) ≤ (s : Int) := by omega
  have a2' : (s : Int) ≤ 285 := by omega
  have e1 : ((s : Int) == 256) = false := by simp; omega
  obtain ⟨x1, x2, x3⟩ := Fo.take_rest hx
  have X1 := hide x1
  have X2 := hide x2
  have X3 := hide x3
  clear hx x1 x2 x3
  have HT := hide ht
  have HY := hide (take_none hy)
  have l2 := distSpan_le ⟨t, by omega⟩
  simp only [] at l2
  have L2 := hide l2
  have a3' : (t : Int) ≤ 29 := by omega
  clear ht hy l2
  go_enter Tryz.func278, Tryz.ntmps278
  go_wp2_with fail
  go_region_with (go_at_call 313; refine (symbol_ok bc oc c.cs c.ss hc.s1 hc.l1 (fun w' r hf k => (hC w' r _ _ hf (((Kept.refl _ _ _ _).drew).trans k)).1) HS.out h.drew).mono ?_; rintro e w1 ⟨rfl, hf1, k1⟩)
  have kk := ((Kept.refl 5 B [br, bf] w).drew).trans k1
  clear k1
  go_wp2_with fail
  refine (within_int_yes _ _ _ _ a1' a2').mono ?_
  rintro e w' ⟨rfl, rfl⟩
  go_wp2_with fail
  refine (must_yes _).mono ?_
  rintro e w' ⟨rfl, rfl⟩
  go_wp2_with fail
  refine (lengthSpan_ok s a1 a2 _).mono ?_
  rintro e w2 ⟨rfl, o2, rfl⟩
  go_wp2_with fail
  refine (within_ok (Fo.lenSpan s) (by have := L1.out; omega) (by have := L1.out; omega) X1.out (hf1.alloc o2)).mono ?_
  rintro e w3 ⟨rfl, hf3, k3⟩
  rw [← X3.out] at hf3
  have kk3 := (kk.alloc o2).trans k3
  clear kk k3
  rw [← X2.out]
  have hxl : x < 1000 := by
    have e1 := X2.out
    have e2 := Fo.val_lt (r1.take (Fo.lenSpan s).2)
    rw [← e1, List.length_take, Nat.min_eq_left X1.out] at e2
    have : 2 ^ (Fo.lenSpan s).2 ≤ 2 ^ 5 := Nat.pow_le_pow_right (by omega) L1.out.1
    omega
  go_wp2_with fail
  go_region_with (go_at_call 313; refine (symbol_ok bc (oc + 17) c.cd c.sd hc.s2 hc.l2 (fun w' r hf k => (hC w' r _ _ hf ((kk3.drew).trans k)).2) HT.out hf3.drew).mono ?_; rintro e w4 ⟨rfl, hf4, k4⟩)
  have kk4 := (kk3.drew).trans k4
  clear kk3 k4
  go_wp2_with fail
  refine (within_int_yes _ _ _ _ (by omega) a3').mono ?_
  rintro e w' ⟨rfl, rfl⟩
  go_wp2_with fail
  refine (must_yes _).mono ?_
  rintro e w' ⟨rfl, rfl⟩
  go_wp2_with fail
  refine (distanceSpan_ok t a3 _).mono ?_
  rintro e w5 ⟨rfl, o5, rfl⟩
  go_wp2_with fail
  refine (within_none (Fo.distSpan t) (by have := L2.out; omega) (by have := L2.out; omega) HY.out (hf4.alloc o5)).mono ?_
  rintro e w6 ⟨rfl, k6⟩
  exact ⟨rfl, rfl, (kk4.alloc o5).trans k6⟩
set_option maxRecDepth 100000 in
set_option maxHeartbeats 1000000 in
theorem part_g (bc oc : Nat) (c : Fo.Codes) (hc : CodesOk c) (hC : Codes4 B br bf bd off cap d most fixed window bc oc c w) {rest r1 r2 r3 r4 : List Bool} (h : Fl B br bf bd off cap d most fixed w rest window ov out)
    (s x t y : Nat) (hs : Fo.sym c.cs c.ss rest = some (s, r1)) (a1 : 257 ≤ s) (a2 : s ≤ 285) (hx : Fo.take (Fo.lenSpan s).2 r1 = some (x, r2)) (ht : Fo.sym c.cd c.sd r2 = some (t, r3)) (a3 : t ≤ 29) (hy : Fo.take (Fo.distSpan t).2 r3 = some (y, r4)) (hb : ¬ ((Fo.distSpan t).1 + y ≤ out.length ∧ (Fo.distSpan t).1 + y ≤ window)) (hw : window ≤ 32768) :
    Calls Tryz.prog 278 #[.pointer (some ⟨bf, 0, none⟩), .pointer (some ⟨bc, oc, none⟩)] w fun e w' => e = gaveUp 5 ∧ Kept 5 B [br, bf] w w' := by
  have HS := hide hs
  have l1 := lenSpan_le ⟨s, by omega⟩ a1
  simp only [] at l1
  have L1 := hide l1
  clear hs l1
  have a1' : (257 : Int) ≤ (s : Int) := by omega
  have a2' : (s : Int) ≤ 285 := by omega
  have e1 : ((s : Int) == 256) = false := by simp; omega
  obtain ⟨x1, x2, x3⟩ := Fo.take_rest hx
  have X1 := hide x1
  have X2 := hide x2
  have X3 := hide x3
  clear hx x1 x2 x3
  have HT := hide ht
  obtain ⟨y1, y2, y3⟩ := Fo.take_rest hy
  have Y1 := hide y1
  have Y2 := hide y2
  have Y3 := hide y3
  have HBAD := hide hb
  have l2 := distSpan_le ⟨t, by omega⟩
  simp only [] at l2
  have L2 := hide l2
  have a3' : (t : Int) ≤ 29 := by omega
  clear ht hy l2 y1 y2 y3 hb
  go_enter Tryz.func278, Tryz.ntmps278
  go_wp2_with fail
  go_region_with (go_at_call 313; refine (symbol_ok bc oc c.cs c.ss hc.s1 hc.l1 (fun w' r hf k => (hC w' r _ _ hf (((Kept.refl _ _ _ _).drew).trans k)).1) HS.out h.drew).mono ?_; rintro e w1 ⟨rfl, hf1, k1⟩)
  have kk := ((Kept.refl 5 B [br, bf] w).drew).trans k1
  clear k1
  go_wp2_with fail
  refine (within_int_yes _ _ _ _ a1' a2').mono ?_
  rintro e w' ⟨rfl, rfl⟩
  go_wp2_with fail
  refine (must_yes _).mono ?_
  rintro e w' ⟨rfl, rfl⟩
  go_wp2_with fail
  refine (lengthSpan_ok s a1 a2 _).mono ?_
  rintro e w2 ⟨rfl, o2, rfl⟩
  go_wp2_with fail
  refine (within_ok (Fo.lenSpan s) (by have := L1.out; omega) (by have := L1.out; omega) X1.out (hf1.alloc o2)).mono ?_
  rintro e w3 ⟨rfl, hf3, k3⟩
  rw [← X3.out] at hf3
  have kk3 := (kk.alloc o2).trans k3
  clear kk k3
  rw [← X2.out]
  have hxl : x < 1000 := by
    have e1 := X2.out
    have e2 := Fo.val_lt (r1.take (Fo.lenSpan s).2)
    rw [← e1, List.length_take, Nat.min_eq_left X1.out] at e2
    have : 2 ^ (Fo.lenSpan s).2 ≤ 2 ^ 5 := Nat.pow_le_pow_right (by omega) L1.out.1
    omega
  go_wp2_with fail
  go_region_with (go_at_call 313; refine (symbol_ok bc (oc + 17) c.cd c.sd hc.s2 hc.l2 (fun w' r hf k => (hC w' r _ _ hf ((kk3.drew).trans k)).2) HT.out hf3.drew).mono ?_; rintro e w4 ⟨rfl, hf4, k4⟩)
  have kk4 := (kk3.drew).trans k4
  clear kk3 k4
  go_wp2_with fail
  refine (within_int_yes _ _ _ _ (by omega) a3').mono ?_
  rintro e w' ⟨rfl, rfl⟩
  go_wp2_with fail
  refine (must_yes _).mono ?_
  rintro e w' ⟨rfl, rfl⟩
  go_wp2_with fail
  refine (distanceSpan_ok t a3 _).mono ?_
  rintro e w5 ⟨rfl, o5, rfl⟩
  go_wp2_with fail
  refine (within_ok (Fo.distSpan t) (by have := L2.out; omega) (by have := L2.out; omega) Y1.out (hf4.alloc o5)).mono ?_
  rintro e w6 ⟨rfl, hf6, k6⟩
  rw [← Y3.out] at hf6
  have kk6 := (kk4.alloc o5).trans k6
  clear kk4 k6
  rw [← Y2.out]
  obtain ⟨p, held, left, hb, hl, hr⟩ := hf6
  have HR := hide hr
  clear hr
  have hyl : y < 10000 := by
    have e1 := Y2.out
    have e2 := Fo.val_lt (r3.take (Fo.distSpan t).2)
    rw [← e1, List.length_take, Nat.min_eq_left Y1.out] at e2
    have : 2 ^ (Fo.distSpan t).2 ≤ 2 ^ 13 := Nat.pow_le_pow_right (by omega) L2.out.1
    omega
  go_wp2_with fail
  refine (again_bad hb ((Fo.lenSpan s).1 + x) ((Fo.distSpan t).1 + y) (by have := L2.out; omega) HBAD.out (by have := L2.out; omega) hw).mono ?_
  rintro e w7 ⟨rfl, k7⟩
  exact ⟨rfl, rfl, kk6.trans k7⟩
/-- One part at which it gives up. -/
theorem part_err (bc oc : Nat) (c : Fo.Codes) (hc : CodesOk c) (hC : Codes4 B br bf bd off cap d most fixed window bc oc c w) {rest : List Bool} (h : Fl B br bf bd off cap d most fixed w rest window ov out)
    (hw : window ≤ 32768) {n : Nat} (hp : Fo.part c window most rest out = .error n) :
    Calls Tryz.prog 278 #[.pointer (some ⟨bf, 0, none⟩), .pointer (some ⟨bc, oc, none⟩)] w fun e w' => e = gaveUp n ∧ Kept 5 B [br, bf] w w' := by
  have hp0 := hp
  unfold Fo.part at hp
  cases h1 : Fo.sym c.cs c.ss rest with
  | none => rw [h1] at hp; cases hp; exact part_a bc oc c hc hC h h1
  | some x =>
    obtain ⟨s, r1⟩ := x
    rw [h1] at hp; simp only [] at hp
    by_cases c1 : s < 256
    · rw [if_pos c1] at hp
      by_cases c0 : out.length + 1 ≤ most
      · rw [if_pos c0] at hp; cases hp
      · rw [if_neg c0] at hp; cases hp
        exact part_no bc oc c hc hC h hw hp0
    rw [if_neg c1] at hp
    by_cases c2 : s = 256
    · rw [if_pos c2] at hp; cases hp
    rw [if_neg c2] at hp
    by_cases c3 : 285 < s
    · rw [if_pos c3] at hp; cases hp; exact part_b bc oc c hc hC h s h1 c3
    rw [if_neg c3] at hp
    cases h2 : Fo.take (Fo.lenSpan s).2 r1 with
    | none => rw [h2] at hp; cases hp; exact part_c bc oc c hc hC h s h1 (by omega) (by omega) h2
    | some x =>
      obtain ⟨x, r2⟩ := x
      rw [h2] at hp; simp only [] at hp
      cases h3 : Fo.sym c.cd c.sd r2 with
      | none => rw [h3] at hp; cases hp; exact part_d bc oc c hc hC h s x h1 (by omega) (by omega) h2 h3
      | some y =>
        obtain ⟨t, r3⟩ := y
        rw [h3] at hp; simp only [] at hp
        by_cases c4 : 29 < t
        · rw [if_pos c4] at hp; cases hp; exact part_e bc oc c hc hC h s x t h1 (by omega) (by omega) h2 h3 c4
        rw [if_neg c4] at hp
        cases h4 : Fo.take (Fo.distSpan t).2 r3 with
        | none => rw [h4] at hp; cases hp; exact part_f bc oc c hc hC h s x t h1 (by omega) (by omega) h2 h3 (by omega) h4
        | some z =>
          obtain ⟨y, r4⟩ := z
          rw [h4] at hp; simp only [] at hp
          by_cases c5 : (Fo.distSpan t).1 + y ≤ out.length ∧ (Fo.distSpan t).1 + y ≤ window
          · rw [if_pos c5] at hp
            by_cases c6 : out.length + ((Fo.lenSpan s).1 + x) ≤ most
            · rw [if_pos c6] at hp; cases hp
            · rw [if_neg c6] at hp; cases hp
              exact part_no bc oc c hc hC h hw hp0
          · rw [if_neg c5] at hp; cases hp
            exact part_g bc oc c hc hC h s x t y h1 (by omega) (by omega) h2 h3 (by omega) h4 c5 hw
/-- What has come of a block, or of what lies in it. -/
def FRes (B br bf bd off cap : Nat) (d : List Nat) (most : Nat) (fixed : List Value) (window : Nat) (w : World) (v : Value) (res : Except Nat (List Bool × List Nat)) (e : Ending) (w' : World) : Prop := match res with
  | .ok (r, o) => e = .returned v ∧ ∃ ov', Fl B br bf bd off cap d most fixed w' r window ov' o ∧ Kept 5 B [br, bf] w w'
  | .error n => e = gaveUp n ∧ Kept 5 B [br, bf] w w'
theorem coded_any (bc oc : Nat) (c : Fo.Codes) (hc : CodesOk c) (hC : Codes4 B br bf bd off cap d most fixed window bc oc c w) {rest : List Bool} (h : Fl B br bf bd off cap d most fixed w rest window ov out)
    (hw : window ≤ 32768) {res : Except Nat (List Bool × List Nat)} (hp : Fo.PartsTo c window most rest out res) :
    Calls Tryz.prog 223 #[.pointer (some ⟨bf, 0, none⟩), .pointer (some ⟨bc, oc, none⟩)] w (FRes B br bf bd off cap d most fixed window w (.tuple #[]) res) := by
  go_enter Tryz.func223, Tryz.ntmps223
  go_wp2
  go_loopw [6] (fun _ wr => ∃ (r : List Bool) (o : List Nat) (ov' : Value), Fl B br bf bd off cap d most fixed wr r window ov' o ∧ Hid (Fo.PartsTo c window most r o res) ∧ Kept 5 B [br, bf] w wr) (fun _ wr => bitsOf' br bf d.length wr)
  case atStart => exact ⟨rest, out, ov, h, hp, Kept.refl _ _ _ _⟩
  case round =>
    obtain ⟨r, o, ov', hf, HP, kk⟩ := hrel
    have hm := hide hf.measure
    rcases HP.out.parted with ⟨e1, he, hres⟩ | ⟨r1, o1, he, hres⟩ | ⟨r1, o1, he, hp2⟩
    · subst hres
      have HE := hide (part_err bc oc c hc (hC.kept kk) hf hw he)
      clear he
      go_wp2_with fail
      refine HE.out.mono ?_
      rintro e w1 ⟨rfl, k2⟩
      exact ⟨rfl, rfl, kk.trans k2⟩
    · subst hres
      have HE := hide (part_ok bc oc c hc (hC.kept kk) hf hw he)
      clear he
      go_wp2_with fail
      refine HE.out.mono ?_
      rintro e w1 ⟨rfl, ov2, hf2, k2⟩
      go_wp2
      go_end0
      exact ⟨rfl, ov2, hf2, kk.trans k2⟩
    · have HP2 := hide hp2
      have hsh := Fo.part_shorter he
      have HE := hide (part_ok bc oc c hc (hC.kept kk) hf hw he)
      clear hp2 he
      go_wp2_with fail
      refine HE.out.mono ?_
      rintro e w1 ⟨rfl, ov2, hf2, k2⟩
      have hm2 := hide hf2.measure
      go_wp2
      go_roundw
      case rel => exact ⟨_, _, ov2, hf2, HP2, kk.trans k2⟩
      case measure => rw [hm.out, hm2.out]; exact hsh
end Go.Proofs.YtgkljcmjnphpeaaGreatDoor
