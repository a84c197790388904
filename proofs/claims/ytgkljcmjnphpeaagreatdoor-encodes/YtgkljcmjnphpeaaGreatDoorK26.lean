/- Filter 4 read: a block's own codes. -/
import Derived.Test.YtgkljcmjnphpeaaGreatDoorK25
set_option linter.unusedVariables false
set_option linter.unusedSimpArgs false
namespace Go.Proofs.YtgkljcmjnphpeaaGreatDoor
open Go.RowKit
variable {B br bf bd off cap : Nat} {d : List Nat} {most : Nat} {fixed : List Value} {w : World} {p held left window : Nat} {ov : Value} {out : List Nat}
set_option maxRecDepth 100000 in
set_option maxHeartbeats 1000000 in
theorem own_a {r : List Bool} (h : Fl B br bf bd off cap d most fixed w r window ov out) (hr : r.length < 5) :
    Calls Tryz.prog 224 #[.pointer (some ⟨bf, 0, none⟩)] w fun e w' => e = gaveUp 5 ∧ Kept 5 B [br, bf] w w' := by
  have F0 := hide (h.alloc zero34)
  have K0 := hide ((Kept.refl 5 B [br, bf] w).alloc zero34)
  obtain ⟨W0, hW0⟩ : ∃ W0, w.alloc zero34 = W0 := ⟨_, rfl⟩
  rw [hW0] at F0 K0
  have hW0' : w.alloc (.cells #[.int .i64 0, .int .i64 0, .int .i64 0, .int .i64 0, .int .i64 0, .int .i64 0, .int .i64 0, .int .i64 0, .int .i64 0, .int .i64 0, .int .i64 0, .int .i64 0, .int .i64 0, .int .i64 0, .int .i64 0, .int .i64 0, .slice none 0 0, .int .i64 0, .int .i64 0, .int .i64 0, .int .i64 0, .int .i64 0, .int .i64 0, .int .i64 0, .int .i64 0, .int .i64 0, .int .i64 0, .int .i64 0, .int .i64 0, .int .i64 0, .int .i64 0, .int .i64 0, .int .i64 0, .slice none 0 0] 164) = W0 := hW0
  have HW0 := hide hW0'
  clear hW0' hW0 h
  go_enter Tryz.func224, Tryz.ntmps224
  go_wp2_with fail
  rw [HW0.out]
  refine wp_region_T (fun _ _ => True) (by kernel_rfl) ?_
  intro hD
  have hS : (fun (_ : Array Bool) (_ : World) => True) (Array.replicate 15 false) W0.drew := trivial
  refine wpAnyT_take (i := 0) (v := ?_) rfl (by kernel_rfl) (by kernel_rfl) (by kernel_rfl) (fun _ _ _ h => h) (fun _ _ h => h) (fun _ _ h => h) hD (Or.inl ⟨by rfl, ?_⟩) hS ?_
  rotate_left
  · intro W hW; go_simp; try (with_reducible rfl)
  clear hD hS; intro hD hS; (try simp only [Act.put, List.setIfInBounds_toArray, List.set_cons_zero, List.set_cons_succ])
  refine wpAnyT_take (i := 1) (v := ?_) rfl (by kernel_rfl) (by kernel_rfl) (by kernel_rfl) (fun _ _ _ h => h) (fun _ _ h => h) (fun _ _ h => h) hD (Or.inl ⟨by rfl, ?_⟩) hS ?_
  rotate_left
  · intro W hW; go_simp; try (with_reducible rfl)
  clear hD hS; intro hD hS; (try simp only [Act.put, List.setIfInBounds_toArray, List.set_cons_zero, List.set_cons_succ])
  refine wpAnyT_take (i := 2) (v := ?_) rfl (by kernel_rfl) (by kernel_rfl) (by kernel_rfl) (fun _ _ _ h => h) (fun _ _ h => h) (fun _ _ h => h) hD (Or.inl ⟨by rfl, ?_⟩) hS ?_
  rotate_left
  · intro W hW; go_simp; try (with_reducible rfl)
  clear hD hS; intro hD hS; (try simp only [Act.put, List.setIfInBounds_toArray, List.set_cons_zero, List.set_cons_succ])
  refine wpAnyT_take (i := 4) (v := ?_) rfl (by kernel_rfl) (by kernel_rfl) (by kernel_rfl) (fun _ _ _ h => h) (fun _ _ h => h) (fun _ _ h => h) hD (Or.inl ⟨by rfl, ?_⟩) hS ?_
  rotate_left
  · intro W hW; go_simp; try (with_reducible rfl)
  clear hD hS; intro hD hS; (try simp only [Act.put, List.setIfInBounds_toArray, List.set_cons_zero, List.set_cons_succ])
  refine wpAnyT_take (i := 5) (v := ?_) rfl (by kernel_rfl) (by kernel_rfl) (by kernel_rfl) (fun _ _ _ h => h) (fun _ _ h => h) (fun _ _ h => h) hD (Or.inl ⟨by rfl, ?_⟩) hS ?_
  rotate_left
  · intro W hW; go_simp; try (with_reducible rfl)
  clear hD hS; intro hD hS; (try simp only [Act.put, List.setIfInBounds_toArray, List.set_cons_zero, List.set_cons_succ])
  refine wpAnyT_take (i := 6) (v := ?_) rfl (by kernel_rfl) (by kernel_rfl) (by kernel_rfl) (fun _ _ _ h => h) (fun _ _ h => h) (fun _ _ h => h) hD (Or.inl ⟨by rfl, ?_⟩) hS ?_
  rotate_left
  · intro W hW; go_simp; try (with_reducible rfl)
  clear hD hS; intro hD hS; (try simp only [Act.put, List.setIfInBounds_toArray, List.set_cons_zero, List.set_cons_succ])
  refine wpAnyT_take (i := 8) (v := ?_) rfl (by kernel_rfl) (by kernel_rfl) (by kernel_rfl) (fun _ _ _ h => h) (fun _ _ h => h) (fun _ _ h => h) hD (Or.inl ⟨by rfl, ?_⟩) hS ?_
  rotate_left
  · intro W hW; go_simp; try (with_reducible rfl)
  clear hD hS; intro hD hS; (try simp only [Act.put, List.setIfInBounds_toArray, List.set_cons_zero, List.set_cons_succ])
  refine wpAnyT_take (i := 9) (v := ?_) rfl (by kernel_rfl) (by kernel_rfl) (by kernel_rfl) (fun _ _ _ h => h) (fun _ _ h => h) (fun _ _ h => h) hD (Or.inl ⟨by rfl, ?_⟩) hS ?_
  rotate_left
  · intro W hW; go_simp; try (with_reducible rfl)
  clear hD hS; intro hD hS; (try simp only [Act.put, List.setIfInBounds_toArray, List.set_cons_zero, List.set_cons_succ])
  refine wpAnyT_take (i := 10) (v := ?_) rfl (by kernel_rfl) (by kernel_rfl) (by kernel_rfl) (fun _ _ _ h => h) (fun _ _ h => h) (fun _ _ h => h) hD (Or.inl ⟨by rfl, ?_⟩) hS ?_
  rotate_left
  · intro W hW; go_simp; try (with_reducible rfl)
  clear hD hS; intro hD hS; (try simp only [Act.put, List.setIfInBounds_toArray, List.set_cons_zero, List.set_cons_succ])
  refine wpAnyT_one (i := 3) (by kernel_rfl) rfl hD (fun K' hK => ?_)
  go_simp
  refine (bits_none 5 (by omega) hr F0.out.drew).mono ?_
  rintro e w1 ⟨rfl, k1⟩
  exact ⟨rfl, rfl, (K0.out.drew).trans k1⟩
set_option maxRecDepth 100000 in
set_option maxHeartbeats 1000000 in
theorem own_b {r : List Bool} (h : Fl B br bf bd off cap d most fixed w r window ov out) (hr : 5 ≤ r.length) (hr2 : r.length < 10) :
    Calls Tryz.prog 224 #[.pointer (some ⟨bf, 0, none⟩)] w fun e w' => e = gaveUp 5 ∧ Kept 5 B [br, bf] w w' := by
  have F0 := hide (h.alloc zero34)
  have K0 := hide ((Kept.refl 5 B [br, bf] w).alloc zero34)
  obtain ⟨W0, hW0⟩ : ∃ W0, w.alloc zero34 = W0 := ⟨_, rfl⟩
  rw [hW0] at F0 K0
  have hW0' : w.alloc (.cells #[.int .i64 0, .int .i64 0, .int .i64 0, .int .i64 0, .int .i64 0, .int .i64 0, .int .i64 0, .int .i64 0, .int .i64 0, .int .i64 0, .int .i64 0, .int .i64 0, .int .i64 0, .int .i64 0, .int .i64 0, .int .i64 0, .slice none 0 0, .int .i64 0, .int .i64 0, .int .i64 0, .int .i64 0, .int .i64 0, .int .i64 0, .int .i64 0, .int .i64 0, .int .i64 0, .int .i64 0, .int .i64 0, .int .i64 0, .int .i64 0, .int .i64 0, .int .i64 0, .int .i64 0, .slice none 0 0] 164) = W0 := hW0
  have HW0 := hide hW0'
  clear hW0' hW0 h
  go_enter Tryz.func224, Tryz.ntmps224
  go_wp2_with fail
  rw [HW0.out]
  refine wp_region_T (fun _ _ => True) (by kernel_rfl) ?_
  intro hD
  have hS : (fun (_ : Array Bool) (_ : World) => True) (Array.replicate 15 false) W0.drew := trivial
  refine wpAnyT_take (i := 0) (v := ?_) rfl (by kernel_rfl) (by kernel_rfl) (by kernel_rfl) (fun _ _ _ h => h) (fun _ _ h => h) (fun _ _ h => h) hD (Or.inl ⟨by rfl, ?_⟩) hS ?_
  rotate_left
  · intro W hW; go_simp; try (with_reducible rfl)
  clear hD hS; intro hD hS; (try simp only [Act.put, List.setIfInBounds_toArray, List.set_cons_zero, List.set_cons_succ])
  refine wpAnyT_take (i := 1) (v := ?_) rfl (by kernel_rfl) (by kernel_rfl) (by kernel_rfl) (fun _ _ _ h => h) (fun _ _ h => h) (fun _ _ h => h) hD (Or.inl ⟨by rfl, ?_⟩) hS ?_
  rotate_left
  · intro W hW; go_simp; try (with_reducible rfl)
  clear hD hS; intro hD hS; (try simp only [Act.put, List.setIfInBounds_toArray, List.set_cons_zero, List.set_cons_succ])
  refine wpAnyT_take (i := 2) (v := ?_) rfl (by kernel_rfl) (by kernel_rfl) (by kernel_rfl) (fun _ _ _ h => h) (fun _ _ h => h) (fun _ _ h => h) hD (Or.inl ⟨by rfl, ?_⟩) hS ?_
  rotate_left
  · intro W hW; go_simp; try (with_reducible rfl)
  clear hD hS; intro hD hS; (try simp only [Act.put, List.setIfInBounds_toArray, List.set_cons_zero, List.set_cons_succ])
  refine wpAnyT_take (i := 4) (v := ?_) rfl (by kernel_rfl) (by kernel_rfl) (by kernel_rfl) (fun _ _ _ h => h) (fun _ _ h => h) (fun _ _ h => h) hD (Or.inl ⟨by rfl, ?_⟩) hS ?_
  rotate_left
  · intro W hW; go_simp; try (with_reducible rfl)
  clear hD hS; intro hD hS; (try simp only [Act.put, List.setIfInBounds_toArray, List.set_cons_zero, List.set_cons_succ])
  refine wpAnyT_take (i := 5) (v := ?_) rfl (by kernel_rfl) (by kernel_rfl) (by kernel_rfl) (fun _ _ _ h => h) (fun _ _ h => h) (fun _ _ h => h) hD (Or.inl ⟨by rfl, ?_⟩) hS ?_
  rotate_left
  · intro W hW; go_simp; try (with_reducible rfl)
  clear hD hS; intro hD hS; (try simp only [Act.put, List.setIfInBounds_toArray, List.set_cons_zero, List.set_cons_succ])
  refine wpAnyT_take (i := 6) (v := ?_) rfl (by kernel_rfl) (by kernel_rfl) (by kernel_rfl) (fun _ _ _ h => h) (fun _ _ h => h) (fun _ _ h => h) hD (Or.inl ⟨by rfl, ?_⟩) hS ?_
  rotate_left
  · intro W hW; go_simp; try (with_reducible rfl)
  clear hD hS; intro hD hS; (try simp only [Act.put, List.setIfInBounds_toArray, List.set_cons_zero, List.set_cons_succ])
  refine wpAnyT_take (i := 8) (v := ?_) rfl (by kernel_rfl) (by kernel_rfl) (by kernel_rfl) (fun _ _ _ h => h) (fun _ _ h => h) (fun _ _ h => h) hD (Or.inl ⟨by rfl, ?_⟩) hS ?_
  rotate_left
  · intro W hW; go_simp; try (with_reducible rfl)
  clear hD hS; intro hD hS; (try simp only [Act.put, List.setIfInBounds_toArray, List.set_cons_zero, List.set_cons_succ])
  refine wpAnyT_take (i := 9) (v := ?_) rfl (by kernel_rfl) (by kernel_rfl) (by kernel_rfl) (fun _ _ _ h => h) (fun _ _ h => h) (fun _ _ h => h) hD (Or.inl ⟨by rfl, ?_⟩) hS ?_
  rotate_left
  · intro W hW; go_simp; try (with_reducible rfl)
  clear hD hS; intro hD hS; (try simp only [Act.put, List.setIfInBounds_toArray, List.set_cons_zero, List.set_cons_succ])
  refine wpAnyT_take (i := 10) (v := ?_) rfl (by kernel_rfl) (by kernel_rfl) (by kernel_rfl) (fun _ _ _ h => h) (fun _ _ h => h) (fun _ _ h => h) hD (Or.inl ⟨by rfl, ?_⟩) hS ?_
  rotate_left
  · intro W hW; go_simp; try (with_reducible rfl)
  clear hD hS; intro hD hS; (try simp only [Act.put, List.setIfInBounds_toArray, List.set_cons_zero, List.set_cons_succ])
  refine wpAnyT_one (i := 3) (by kernel_rfl) rfl hD (fun K' hK => ?_)
  go_simp
  refine (bits_ok 5 (by omega) hr F0.out.drew).mono ?_
  rintro e w1 ⟨rfl, f1, k1⟩
  refine hK.out _ _ trivial (fun hD2 hS2 => ?_)
  clear hD hS hK K'
  have hD := hD2
  have hS := hS2
  clear hD2 hS2
  (try simp only [Act.put, List.setIfInBounds_toArray, List.set_cons_zero, List.set_cons_succ])
  refine wpAnyT_one (i := 7) (by kernel_rfl) rfl hD (fun K' hK => ?_)
  go_simp
  refine (bits_none 5 (by omega) (by rw [List.length_drop]; omega) f1).mono ?_
  rintro e w2 ⟨rfl, k2⟩
  exact ⟨rfl, rfl, ((K0.out.drew).trans k1).trans k2⟩
set_option maxRecDepth 100000 in
set_option maxHeartbeats 1000000 in
theorem own_c {r : List Bool} (h : Fl B br bf bd off cap d most fixed w r window ov out) (hr : 10 ≤ r.length) (hr2 : r.length < 14) :
    Calls Tryz.prog 224 #[.pointer (some ⟨bf, 0, none⟩)] w fun e w' => e = gaveUp 5 ∧ Kept 5 B [br, bf] w w' := by
  have F0 := hide (h.alloc zero34)
  have K0 := hide ((Kept.refl 5 B [br, bf] w).alloc zero34)
  obtain ⟨W0, hW0⟩ : ∃ W0, w.alloc zero34 = W0 := ⟨_, rfl⟩
  rw [hW0] at F0 K0
  have hW0' : w.alloc (.cells #[.int .i64 0, .int .i64 0, .int .i64 0, .int .i64 0, .int .i64 0, .int .i64 0, .int .i64 0, .int .i64 0, .int .i64 0, .int .i64 0, .int .i64 0, .int .i64 0, .int .i64 0, .int .i64 0, .int .i64 0, .int .i64 0, .slice none 0 0, .int .i64 0, .int .i64 0, .int .i64 0, .int .i64 0, .int .i64 0, .int .i64 0, .int .i64 0, .int .i64 0, .int .i64 0, .int .i64 0, .int .i64 0, .int .i64 0, .int .i64 0, .int .i64 0, .int .i64 0, .int .i64 0, .slice none 0 0] 164) = W0 := hW0
  have HW0 := hide hW0'
  clear hW0' hW0 h
  go_enter Tryz.func224, Tryz.ntmps224
  go_wp2_with fail
  rw [HW0.out]
  refine wp_region_T (fun _ _ => True) (by kernel_rfl) ?_
  intro hD
  have hS : (fun (_ : Array Bool) (_ : World) => True) (Array.replicate 15 false) W0.drew := trivial
  refine wpAnyT_take (i := 0) (v := ?_) rfl (by kernel_rfl) (by kernel_rfl) (by kernel_rfl) (fun _ _ _ h => h) (fun _ _ h => h) (fun _ _ h => h) hD (Or.inl ⟨by rfl, ?_⟩) hS ?_
  rotate_left
  · intro W hW; go_simp; try (with_reducible rfl)
  clear hD hS; intro hD hS; (try simp only [Act.put, List.setIfInBounds_toArray, List.set_cons_zero, List.set_cons_succ])
  refine wpAnyT_take (i := 1) (v := ?_) rfl (by kernel_rfl) (by kernel_rfl) (by kernel_rfl) (fun _ _ _ h => h) (fun _ _ h => h) (fun _ _ h => h) hD (Or.inl ⟨by rfl, ?_⟩) hS ?_
  rotate_left
  · intro W hW; go_simp; try (with_reducible rfl)
  clear hD hS; intro hD hS; (try simp only [Act.put, List.setIfInBounds_toArray, List.set_cons_zero, List.set_cons_succ])
  refine wpAnyT_take (i := 2) (v := ?_) rfl (by kernel_rfl) (by kernel_rfl) (by kernel_rfl) (fun _ _ _ h => h) (fun _ _ h => h) (fun _ _ h => h) hD (Or.inl ⟨by rfl, ?_⟩) hS ?_
  rotate_left
  · intro W hW; go_simp; try (with_reducible rfl)
  clear hD hS; intro hD hS; (try simp only [Act.put, List.setIfInBounds_toArray, List.set_cons_zero, List.set_cons_succ])
  refine wpAnyT_take (i := 4) (v := ?_) rfl (by kernel_rfl) (by kernel_rfl) (by kernel_rfl) (fun _ _ _ h => h) (fun _ _ h => h) (fun _ _ h => h) hD (Or.inl ⟨by rfl, ?_⟩) hS ?_
  rotate_left
  · intro W hW; go_simp; try (with_reducible rfl)
  clear hD hS; intro hD hS; (try simp only [Act.put, List.setIfInBounds_toArray, List.set_cons_zero, List.set_cons_succ])
  refine wpAnyT_take (i := 5) (v := ?_) rfl (by kernel_rfl) (by kernel_rfl) (by kernel_rfl) (fun _ _ _ h => h) (fun _ _ h => h) (fun _ _ h => h) hD (Or.inl ⟨by rfl, ?_⟩) hS ?_
  rotate_left
  · intro W hW; go_simp; try (with_reducible rfl)
  clear hD hS; intro hD hS; (try simp only [Act.put, List.setIfInBounds_toArray, List.set_cons_zero, List.set_cons_succ])
  refine wpAnyT_take (i := 6) (v := ?_) rfl (by kernel_rfl) (by kernel_rfl) (by kernel_rfl) (fun _ _ _ h => h) (fun _ _ h => h) (fun _ _ h => h) hD (Or.inl ⟨by rfl, ?_⟩) hS ?_
  rotate_left
  · intro W hW; go_simp; try (with_reducible rfl)
  clear hD hS; intro hD hS; (try simp only [Act.put, List.setIfInBounds_toArray, List.set_cons_zero, List.set_cons_succ])
  refine wpAnyT_take (i := 8) (v := ?_) rfl (by kernel_rfl) (by kernel_rfl) (by kernel_rfl) (fun _ _ _ h => h) (fun _ _ h => h) (fun _ _ h => h) hD (Or.inl ⟨by rfl, ?_⟩) hS ?_
  rotate_left
  · intro W hW; go_simp; try (with_reducible rfl)
  clear hD hS; intro hD hS; (try simp only [Act.put, List.setIfInBounds_toArray, List.set_cons_zero, List.set_cons_succ])
  refine wpAnyT_take (i := 9) (v := ?_) rfl (by kernel_rfl) (by kernel_rfl) (by kernel_rfl) (fun _ _ _ h => h) (fun _ _ h => h) (fun _ _ h => h) hD (Or.inl ⟨by rfl, ?_⟩) hS ?_
  rotate_left
  · intro W hW; go_simp; try (with_reducible rfl)
  clear hD hS; intro hD hS; (try simp only [Act.put, List.setIfInBounds_toArray, List.set_cons_zero, List.set_cons_succ])
  refine wpAnyT_take (i := 10) (v := ?_) rfl (by kernel_rfl) (by kernel_rfl) (by kernel_rfl) (fun _ _ _ h => h) (fun _ _ h => h) (fun _ _ h => h) hD (Or.inl ⟨by rfl, ?_⟩) hS ?_
  rotate_left
  · intro W hW; go_simp; try (with_reducible rfl)
  clear hD hS; intro hD hS; (try simp only [Act.put, List.setIfInBounds_toArray, List.set_cons_zero, List.set_cons_succ])
  refine wpAnyT_one (i := 3) (by kernel_rfl) rfl hD (fun K' hK => ?_)
  go_simp
  refine (bits_ok 5 (by omega) (by omega) F0.out.drew).mono ?_
  rintro e w1 ⟨rfl, f1, k1⟩
  refine hK.out _ _ trivial (fun hD2 hS2 => ?_)
  clear hD hS hK K'
  have hD := hD2
  have hS := hS2
  clear hD2 hS2
  (try simp only [Act.put, List.setIfInBounds_toArray, List.set_cons_zero, List.set_cons_succ])
  refine wpAnyT_one (i := 7) (by kernel_rfl) rfl hD (fun K' hK => ?_)
  go_simp
  refine (bits_ok 5 (by omega) (by rw [List.length_drop]; omega) f1).mono ?_
  rintro e w2 ⟨rfl, f2, k2⟩
  refine hK.out _ _ trivial (fun hD2 hS2 => ?_)
  clear hD hS hK K'
  have hD := hD2
  have hS := hS2
  clear hD2 hS2
  (try simp only [Act.put, List.setIfInBounds_toArray, List.set_cons_zero, List.set_cons_succ])
  refine wpAnyT_one (i := 11) (by kernel_rfl) rfl hD (fun K' hK => ?_)
  go_simp
  refine (bits_none 4 (by omega) (by rw [List.length_drop, List.length_drop]; omega) f2).mono ?_
  rintro e w3 ⟨rfl, k3⟩
  exact ⟨rfl, rfl, (((K0.out.drew).trans k1).trans k2).trans k3⟩
end Go.Proofs.YtgkljcmjnphpeaaGreatDoor
namespace Go
section
variable {P : Program} {ops : Array Oper} {Q : Exit → Act → World → Prop} {md : Region.Mode} {S : Array Bool → World → Prop}
theorem iteTrue {c : Bool} {a b : Prop} (h : c = true) (ha : a) : if c = true then a else b := by rw [if_pos h]; exact ha
theorem exec_build2 {w : World} {ev : Operand → Value} {o : Oper} (t i j : Nat) (x y : Operand) (ho : o.op = .build t #[(i, x), (j, y)]) {vx vy v : Value} (hx : ev x = vx) (hy : ev y = vy) (hrun : (Instr.build t #[(i, vx), (j, vy)]).run P w = .ok v w) : (execOp ev o).run P w = .ok (.value v) w := by
  simp [execOp, ho, hx, hy, hrun, Result.andThen]
/-- Two may come up. -/
theorem wpAnyT_two {i j : Nat} {oi oj : Oper} {fuel : Nat} {L : Array Bool} {a : Act} {w : World} (hr : Region.ready md ops L = [i, j]) (hoi : ops[i]? = some oi) (hoj : ops[j]? = some oj) (hD : Disc md ops L)
    (h : ∀ K' : Act → World → Prop, Shut (∀ a w, S (L.setIfInBounds i true) w → (Disc md ops (L.setIfInBounds i true) → S (L.setIfInBounds i true) w → wpAnyT P md ops Q S fuel (L.setIfInBounds i true) a w) → K' a w) → if Region.wanted oi (yielded ops a.tmps) = true then Oper.wp P oi a w K' Q else K' (a.put oi.dst undef) w)
    (h' : ∀ K' : Act → World → Prop, Shut (∀ a w, S (L.setIfInBounds j true) w → (Disc md ops (L.setIfInBounds j true) → S (L.setIfInBounds j true) w → wpAnyT P md ops Q S fuel (L.setIfInBounds j true) a w) → K' a w) → if Region.wanted oj (yielded ops a.tmps) = true then Oper.wp P oj a w K' Q else K' (a.put oj.dst undef) w) :
    wpAnyT P md ops Q S (fuel + 1) L a w := by
  refine ⟨fun h0 => (by rw [hr] at h0; cases h0), fun k hk => ?_⟩
  rw [hr] at hk
  rcases List.mem_cons.1 hk with rfl | hk
  · have hD' := hD.set (i := k) (by rw [hr]; simp)
    exact wpOp_step hoi (fun K' hK => h K' (fun a w hS hW => hK a w ⟨hS, hW hD' hS⟩))
  · obtain rfl := List.mem_singleton.1 hk
    have hD' := hD.set (i := k) (by rw [hr]; simp)
    exact wpOp_step hoj (fun K' hK => h' K' (fun a w hS hW => hK a w ⟨hS, hW hD' hS⟩))
end
end Go
namespace Go.Proofs.YtgkljcmjnphpeaaGreatDoor
open Go.RowKit
variable {B br bf bd off cap : Nat} {d : List Nat} {most : Nat} {fixed : List Value} {w : World} {p held left window : Nat} {ov : Value} {out : List Nat}
theorem must_yesb (b : Bool) (hb : b = true) (w : World) : Calls Tryz.prog 163 #[.bool b] w fun e w' => e = .returned (.tuple #[]) ∧ w' = w := by
  subst hb; exact must_yes w
theorem own_capI {g n c : Nat} {xs : List Value} {B' : Nat} (h : w.ownsRow B' 3 1 (.slice (some ⟨g, 0, none⟩) n c) n xs) : n ≤ c ∧ c ≤ 9223372036854775807 := by
  obtain ⟨_, h | ⟨g', c', cur, he, _, _, h1, h2, _⟩⟩ := h
  · exact absurd h.1 (by simp)
  · simp only [Value.slice.injEq] at he
    obtain ⟨_, _, rfl⟩ := he
    exact ⟨h1, h2⟩
theorem lensOf_small {r r' : List Bool} {told n : Nat} {L : List Nat} (h : Fo.lensOf r told n = some (r', L)) : L.length = n ∧ ∀ x ∈ L, x < 16 := by
  unfold Fo.lensOf at h
  split at h
  · cases h
  split at h
  · cases h
  exact Fo.lensDec_small h
theorem Kept.setCellsNew {e : TypeId} {B b o : Nat} {S : List Nat} {a w : World} (h : Kept e B S a w) (hb : a.heap.size ≤ b) (vs : List Value) : Kept e B S a (w.setCells b o vs) :=
  have hB := setCells_below b b (Nat.le_refl _) vs o w w (Below.refl _ _)
  ⟨hB.os.trans h.os, hB.tape.trans h.tape, hB.output.trans h.output, Nat.le_trans h.size hB.size, fun k x hk hx hc => by
    rw [setCells_ne b (by have := lt_of_block hx; omega)]
    exact h.block k x hk hx hc⟩
/-- The cells of a list of codes, and of two. -/
def codeCells (L : List Nat) (g : Nat) : List Value := ints (cz L) ++ [Value.slice (some ⟨g, 0, none⟩) (cz L).sum (cz L).sum]
def ownCells (L1 L2 : List Nat) (g1 g2 : Nat) : List Value := codeCells L1 g1 ++ codeCells L2 g2
theorem codeCells_len (L : List Nat) (g : Nat) : (codeCells L g).length = 17 := by simp [codeCells, ints, cz_length]
theorem range_of_cells {W : World} {b T : Nat} {C : List Value} {fz : Nat × Nat} (h : W.heap[b]? = some (.cells C.toArray T fz)) : Hid (W.rangeAt b 0 C) := by
  intro j v hj
  rw [cell_blk h, Nat.zero_add]
  simpa using hj
theorem kept_setCellsE {e : TypeId} {g B' : Nat} {c : Array Value} {fz : Nat × Nat} (hg : w.heap[g]? = some (.cells c e fz)) (hB : B' ≤ g) (vs : List Value) : Kept e B' [] w (w.setCells g 0 vs) :=
  have hb := setCells_below g g (Nat.le_refl _) vs 0 w w (Below.refl _ _)
  ⟨hb.os, hb.tape, hb.output, hb.size, fun k o _ ho hc => by
    by_cases hk : k = g
    · subst hk
      rw [hg] at ho
      rcases hc with hc | hc
      · omega
      · exact absurd (Option.some.inj ho).symm (hc _ _)
    · rw [setCells_ne g hk]; exact ho⟩
theorem ownCd {W : World} {bo g1 g2 : Nat} {L1 L2 : List Nat} (h : W.heap[bo]? = some (.cells (ownCells L1 L2 g1 g2).toArray 164 (0, 0))) (h1 : IntRow W g1 (Fo.ssOf L1)) (h2 : IntRow W g2 (Fo.ssOf L2)) (s1 : ∀ i, i < L1.length → nth L1 i < 16) (s2 : ∀ i, i < L2.length → nth L2 i < 16) :
    Cd W bo 0 (cz L1) (Fo.ssOf L1) ∧ Cd W bo 17 (cz L2) (Fo.ssOf L2) := by
  have l1 := codeCells_len L1 g1
  have i1 : (ints (cz L1)).length = 16 := by simp [ints, cz_length]
  have i2 : (ints (cz L2)).length = 16 := by simp [ints, cz_length]
  refine ⟨⟨fun i hi => ?_, g1, (cz L1).sum, ?_, h1.cell⟩, ⟨fun i hi => ?_, g2, (cz L2).sum, ?_, h2.cell⟩⟩
  · rw [cell_blk h, Nat.zero_add, List.getElem?_toArray, ownCells, List.getElem?_append_left (by omega), codeCells, List.getElem?_append_left (by omega)]
    exact ints_get _ _ (by rw [cz_length]; exact hi)
  · rw [cell_blk h, List.getElem?_toArray, ownCells, List.getElem?_append_left (by omega), codeCells, List.getElem?_append_right (by omega), i1, ss_len s1]
    rfl
  · rw [cell_blk h, List.getElem?_toArray, ownCells, List.getElem?_append_right (by omega), l1, show 17 + i - 17 = i by omega, codeCells, List.getElem?_append_left (by omega)]
    exact ints_get _ _ (by rw [cz_length]; exact hi)
  · rw [cell_blk h, List.getElem?_toArray, ownCells, List.getElem?_append_right (by omega), l1, codeCells, List.getElem?_append_right (by omega), i2, ss_len s2]
    rfl
theorem few_iff (L : List Nat) (hl : ∀ i, i < L.length → nth L i < 16) (hf : Fo.fullOf L ≠ 32768) : ((Fo.ssOf L).length = nth (cz L) 1 ∧ (Fo.ssOf L).length ≤ 1) ↔ (Fo.fullOf L = 0 ∨ (Fo.fullOf L = 16384 ∧ ∀ x ∈ L, x < 2)) := by
  have e1 : (Fo.ssOf L).length = psum (cz L) 15 := by rw [ss_len hl, psum_cz]
  have e2 := full_cz L
  rw [← e2] at hf ⊢
  rw [e1]
  have hx : (∀ x ∈ L, x < 2) ↔ ∀ k, 2 ≤ k → k < 16 → nth (cz L) k = 0 := by
    constructor
    · intro h k h2 h16
      rw [nth_cz L k (by omega) h16, List.count_eq_zero]
      intro hk; have := h k hk; omega
    · intro h x hx
      rcases Nat.lt_or_ge x 2 with h2 | h2
      · exact h2
      · exfalso
        obtain ⟨i, hi, rfl⟩ := List.getElem_of_mem hx
        have h16 : L[i] < 16 := by have := hl i hi; simpa [nth, List.getElem?_eq_getElem hi] using this
        have := h L[i] h2 h16
        rw [nth_cz L _ (by omega) h16, List.count_eq_zero] at this
        exact this hx
  rw [hx]
  have hall : (∀ k, 2 ≤ k → k < 16 → nth (cz L) k = 0) ↔ (nth (cz L) 2 = 0 ∧ nth (cz L) 3 = 0 ∧ nth (cz L) 4 = 0 ∧ nth (cz L) 5 = 0 ∧ nth (cz L) 6 = 0 ∧ nth (cz L) 7 = 0 ∧ nth (cz L) 8 = 0 ∧ nth (cz L) 9 = 0 ∧ nth (cz L) 10 = 0 ∧ nth (cz L) 11 = 0 ∧ nth (cz L) 12 = 0 ∧ nth (cz L) 13 = 0 ∧ nth (cz L) 14 = 0 ∧ nth (cz L) 15 = 0) := by
    constructor
    · intro h
      exact ⟨h 2 (by omega) (by omega), h 3 (by omega) (by omega), h 4 (by omega) (by omega), h 5 (by omega) (by omega), h 6 (by omega) (by omega), h 7 (by omega) (by omega), h 8 (by omega) (by omega), h 9 (by omega) (by omega), h 10 (by omega) (by omega), h 11 (by omega) (by omega), h 12 (by omega) (by omega), h 13 (by omega) (by omega), h 14 (by omega) (by omega), h 15 (by omega) (by omega)⟩
    · rintro ⟨h2, h3, h4, h5, h6, h7, h8, h9, h10, h11, h12, h13, h14, h15⟩ k k2 k16
      have : k = 2 ∨ k = 3 ∨ k = 4 ∨ k = 5 ∨ k = 6 ∨ k = 7 ∨ k = 8 ∨ k = 9 ∨ k = 10 ∨ k = 11 ∨ k = 12 ∨ k = 13 ∨ k = 14 ∨ k = 15 := by omega
      rcases this with rfl | rfl | rfl | rfl | rfl | rfl | rfl | rfl | rfl | rfl | rfl | rfl | rfl | rfl <;> assumption
  rw [hall]
  have ek : Fo.kr (fun j => nth (cz L) j) 15 = nth (cz L) 1 * 16384 + nth (cz L) 2 * 8192 + nth (cz L) 3 * 4096 + nth (cz L) 4 * 2048 + nth (cz L) 5 * 1024 + nth (cz L) 6 * 512 + nth (cz L) 7 * 256 + nth (cz L) 8 * 128 + nth (cz L) 9 * 64 + nth (cz L) 10 * 32 + nth (cz L) 11 * 16 + nth (cz L) 12 * 8 + nth (cz L) 13 * 4 + nth (cz L) 14 * 2 + nth (cz L) 15 := by
    simp [Fo.kr]
  have ep : psum (cz L) 15 = nth (cz L) 1 + nth (cz L) 2 + nth (cz L) 3 + nth (cz L) 4 + nth (cz L) 5 + nth (cz L) 6 + nth (cz L) 7 + nth (cz L) 8 + nth (cz L) 9 + nth (cz L) 10 + nth (cz L) 11 + nth (cz L) 12 + nth (cz L) 13 + nth (cz L) 14 + nth (cz L) 15 := by
    simp [psum]
  rw [ek] at hf ⊢
  rw [ep]
  generalize nth (cz L) 1 = a1 at *
  generalize nth (cz L) 2 = a2 at *
  generalize nth (cz L) 3 = a3 at *
  generalize nth (cz L) 4 = a4 at *
  generalize nth (cz L) 5 = a5 at *
  generalize nth (cz L) 6 = a6 at *
  generalize nth (cz L) 7 = a7 at *
  generalize nth (cz L) 8 = a8 at *
  generalize nth (cz L) 9 = a9 at *
  generalize nth (cz L) 10 = a10 at *
  generalize nth (cz L) 11 = a11 at *
  generalize nth (cz L) 12 = a12 at *
  generalize nth (cz L) 13 = a13 at *
  generalize nth (cz L) 14 = a14 at *
  generalize nth (cz L) 15 = a15 at *
  clear e1 e2 hx hall ek ep hf
  constructor
  · rintro ⟨h1, h2⟩
    have hz : a2 = 0 ∧ a3 = 0 ∧ a4 = 0 ∧ a5 = 0 ∧ a6 = 0 ∧ a7 = 0 ∧ a8 = 0 ∧ a9 = 0 ∧ a10 = 0 ∧ a11 = 0 ∧ a12 = 0 ∧ a13 = 0 ∧ a14 = 0 ∧ a15 = 0 := by
      refine ⟨?_, ?_, ?_, ?_, ?_, ?_, ?_, ?_, ?_, ?_, ?_, ?_, ?_, ?_⟩ <;> omega
    obtain ⟨rfl, rfl, rfl, rfl, rfl, rfl, rfl, rfl, rfl, rfl, rfl, rfl, rfl, rfl⟩ := hz
    have : a1 = 0 ∨ a1 = 1 := by omega
    rcases this with rfl | rfl
    · exact Or.inl rfl
    · exact Or.inr ⟨rfl, rfl, rfl, rfl, rfl, rfl, rfl, rfl, rfl, rfl, rfl, rfl, rfl, rfl, rfl⟩
  · rintro (h | ⟨h, rfl, rfl, rfl, rfl, rfl, rfl, rfl, rfl, rfl, rfl, rfl, rfl, rfl, rfl⟩)
    · have hz : a1 = 0 ∧ a2 = 0 ∧ a3 = 0 ∧ a4 = 0 ∧ a5 = 0 ∧ a6 = 0 ∧ a7 = 0 ∧ a8 = 0 ∧ a9 = 0 ∧ a10 = 0 ∧ a11 = 0 ∧ a12 = 0 ∧ a13 = 0 ∧ a14 = 0 ∧ a15 = 0 := by
        refine ⟨?_, ?_, ?_, ?_, ?_, ?_, ?_, ?_, ?_, ?_, ?_, ?_, ?_, ?_, ?_⟩ <;> omega
      obtain ⟨rfl, rfl, rfl, rfl, rfl, rfl, rfl, rfl, rfl, rfl, rfl, rfl, rfl, rfl, rfl⟩ := hz
      exact ⟨rfl, by omega⟩
    · omega
/-- What has come of a block's own codes. -/
def OwRes (B br bf bd off cap : Nat) (d : List Nat) (most : Nat) (fixed : List Value) (window : Nat) (ov : Value) (out : List Nat) (w : World) (r : List Bool) (e : Ending) (w' : World) : Prop :=
  ((Fo.ownHead r = none ∨ ∃ r' L, Fo.ownHead r = some (r', L) ∧ ¬ Fo.ownGood L (Fo.headA r)) ∧ e = gaveUp 5 ∧ Kept 5 B [br, bf] w w') ∨
  (∃ r' L g1 g2, Fo.ownHead r = some (r', L) ∧ Fo.ownGood L (Fo.headA r) ∧ e = .returned (.agg (ownCells (L.take (Fo.headA r)) (L.drop (Fo.headA r)) g1 g2).toArray) ∧ IntRow w' g1 (Fo.ssOf (L.take (Fo.headA r))) ∧ IntRow w' g2 (Fo.ssOf (L.drop (Fo.headA r))) ∧ Fl B br bf bd off cap d most fixed w' r' window ov out ∧ Kept 5 B [br, bf] w w')
end Go.Proofs.YtgkljcmjnphpeaaGreatDoor
