/- codes.bySymbol: the codes laid out by their symbols. -/
import Derived.Test.YtgkljcmjnphpeaaGreatDoorK07
import Derived.Test.YtgkljcmjnphpeaaGreatDoorK00
import Derived.Test.YtgkljcmjnphpeaaGreatDoorK02
import Derived.Test.YtgkljcmjnphpeaaGreatDoorK01
import Derived.BigRegion
import Derived.StillTailTactics
import Derived.Test.YtgkljcmjnphpeaaGreatDoorK06
import Derived.Deep.MidRow
set_option linter.unusedVariables false
set_option linter.unusedSimpArgs false
namespace Go.Proofs.YtgkljcmjnphpeaaGreatDoor
open Go.RowKit
variable {B br bf bd off cap : Nat} {d : List Nat} {most : Nat} {fixed : List Value} {w : World} {p held left window : Nat} {ov : Value} {out : List Nat}
theorem again_no (h : Bi B br bf bd off cap d most fixed w p held left window ov out) (len dist : Nat) (h1 : 1 ≤ dist) (h2 : dist ≤ out.length) (h3 : dist ≤ window) (hlen : len ≤ 1000000) (h4 : most < out.length + len) (h5 : window ≤ 32768) :
    Calls Tryz.prog 315 #[.pointer (some ⟨bf, 0, none⟩), .int .i64 len, .int .i64 dist] w fun e w' => e = gaveUp 6 ∧ Kept 5 B [br, bf] w w' := by
  have c0 := h.c0
  have c3 := h.c3
  have r2 := h.rd.c2
  have lm := h.rd.lm
  have lo := h.rd.lo
  obtain ⟨ao, oc, hov⟩ := own_slice h.rd.own
  have HOV := hide hov
  rw [hov] at r2
  clear hov
  rcases Nat.lt_or_ge window out.length with hm | hm
  all_goals
    go_enter Tryz.func315, Tryz.ntmps315
    go_wp2_with fail
    go_quiet ((first | (go_at_call 63; exact Calls.quiet_of_same (within_int_yes _ _ _ _ (by omega) (by omega))) | (go_at_call 163; exact Calls.quiet_of_same (must_yes _))))
    go_wp2_with fail
    refine (room_no (h.rd.drewN _) len hlen h4).mono ?_
    rintro e w' ⟨rfl, q, rfl⟩
    exact ⟨rfl, rfl, ((Kept.refl _ _ _ _).drewN _).drewN _⟩
theorem part_lit_no (bc oc : Nat) (c : Fo.Codes) (hc : CodesOk c) (hC : Codes4 B br bf bd off cap d most fixed window bc oc c w) {rest rest' : List Bool} (h : Fl B br bf bd off cap d most fixed w rest window ov out)
    (s : Nat) (hs : Fo.sym c.cs c.ss rest = some (s, rest')) (h1 : s < 256) (ho : most < out.length + 1) :
    Calls Tryz.prog 278 #[.pointer (some ⟨bf, 0, none⟩), .pointer (some ⟨bc, oc, none⟩)] w fun e w' => e = gaveUp 6 ∧ Kept 5 B [br, bf] w w' := by
  have HS := hide hs
  clear hs
  go_enter Tryz.func278, Tryz.ntmps278
  go_wp2_with fail
  go_region_with (go_at_call 313; refine (symbol_ok bc oc c.cs c.ss hc.s1 hc.l1 (fun w' r hf k => (hC w' r _ _ hf (((Kept.refl _ _ _ _).drew).trans k)).1) HS.out h.drew).mono ?_; rintro e w1 ⟨rfl, hf1, k1⟩)
  obtain ⟨p, held, left, hb, hl, hr⟩ := hf1
  have c0 := hb.c0
  clear hr
  have h1' : (s : Int) < 256 := by omega
  go_wp2_with fail
  refine (put_no (hb.rd.alloc _) 1 _ 1 (by omega) ho).mono ?_
  rintro e w2 ⟨rfl, q, rfl⟩
  exact ⟨rfl, rfl, ((((Kept.refl _ _ _ _).drew).trans k1).alloc _).drewN q⟩
set_option maxRecDepth 100000 in
set_option maxHeartbeats 1000000 in
theorem part_copy_no (bc oc : Nat) (c : Fo.Codes) (hc : CodesOk c) (hC : Codes4 B br bf bd off cap d most fixed window bc oc c w) {rest r1 r2 r3 r4 : List Bool} (h : Fl B br bf bd off cap d most fixed w rest window ov out)
    (s x t y : Nat) (hs : Fo.sym c.cs c.ss rest = some (s, r1)) (a1 : 257 ≤ s) (a2 : s ≤ 285) (hx : Fo.take (Fo.lenSpan s).2 r1 = some (x, r2)) (ht : Fo.sym c.cd c.sd r2 = some (t, r3)) (a3 : t ≤ 29)
    (hy : Fo.take (Fo.distSpan t).2 r3 = some (y, r4)) (b1 : (Fo.distSpan t).1 + y ≤ out.length) (b2 : (Fo.distSpan t).1 + y ≤ window) (b3 : most < out.length + ((Fo.lenSpan s).1 + x)) (hw : window ≤ 32768) :
    Calls Tryz.prog 278 #[.pointer (some ⟨bf, 0, none⟩), .pointer (some ⟨bc, oc, none⟩)] w fun e w' => e = gaveUp 6 ∧ Kept 5 B [br, bf] w w' := by
  have HS := hide hs
  have HT := hide ht
  have l1 := lenSpan_le ⟨s, by omega⟩ a1
  have l2 := distSpan_le ⟨t, by omega⟩
  simp only [] at l1 l2
  obtain ⟨x1, x2, x3⟩ := Fo.take_rest hx
  obtain ⟨y1, y2, y3⟩ := Fo.take_rest hy
  have X2 := hide x2
  have X3 := hide x3
  have Y2 := hide y2
  have Y3 := hide y3
  have NUM := hide (And.intro b1 (And.intro b2 (And.intro b3 (And.intro l1 (And.intro l2 (And.intro x1 y1))))))
  clear hs ht hx hy x2 x3 y2 y3 b1 b2 b3 l1 l2 x1 y1
  have a1' : (257 : Int) ≤ (s : Int) := by omega
  have a2' : (s : Int) ≤ 285 := by omega
  have a3' : (t : Int) ≤ 29 := by omega
  have e1 : ((s : Int) == 256) = false := by simp; omega
  go_enter Tryz.func278, Tryz.ntmps278
  go_wp2_with fail
  go_region_with (go_at_call 313; refine (symbol_ok bc oc c.cs c.ss hc.s1 hc.l1 (fun w' r hf k => (hC w' r _ _ hf (((Kept.refl _ _ _ _).drew).trans k)).1) HS.out h.drew).mono ?_; rintro e w1 ⟨rfl, hf1, k1⟩)
  have kk := ((Kept.refl 5 B [br, bf] w).drew).trans k1
  clear k1
  go_wp2_with fail
  refine (within_int_yes _ _ _ _ a1' a2').mono ?_
  rintro e w' ⟨rfl, rfl⟩
  go_wp2_with fail
  refine (must_yes _).mono ?_
  rintro e w' ⟨rfl, rfl⟩
  go_wp2_with fail
  refine (lengthSpan_ok s a1 a2 _).mono ?_
  rintro e w2 ⟨rfl, o2, rfl⟩
  go_wp2_with fail
  refine (within_ok (Fo.lenSpan s) (by have := NUM.out; omega) (by have := NUM.out; omega) NUM.out.2.2.2.2.2.1 (hf1.alloc o2)).mono ?_
  rintro e w3 ⟨rfl, hf3, k3⟩
  rw [← X3.out] at hf3
  have kk3 := (kk.alloc o2).trans k3
  clear kk k3
  rw [← X2.out]
  go_wp2_with fail
  go_region_with (go_at_call 313; refine (symbol_ok bc (oc + 17) c.cd c.sd hc.s2 hc.l2 (fun w' r hf k => (hC w' r _ _ hf ((kk3.drew).trans k)).2) HT.out hf3.drew).mono ?_; rintro e w4 ⟨rfl, hf4, k4⟩)
  have kk4 := (kk3.drew).trans k4
  clear kk3 k4
  go_wp2_with fail
  refine (within_int_yes _ _ _ _ (by omega) a3').mono ?_
  rintro e w' ⟨rfl, rfl⟩
  go_wp2_with fail
  refine (must_yes _).mono ?_
  rintro e w' ⟨rfl, rfl⟩
  go_wp2_with fail
  refine (distanceSpan_ok t a3 _).mono ?_
  rintro e w5 ⟨rfl, o5, rfl⟩
  go_wp2_with fail
  refine (within_ok (Fo.distSpan t) (by have := NUM.out; omega) (by have := NUM.out; omega) NUM.out.2.2.2.2.2.2 (hf4.alloc o5)).mono ?_
  rintro e w6 ⟨rfl, hf6, k6⟩
  rw [← Y3.out] at hf6
  have kk6 := (kk4.alloc o5).trans k6
  clear kk4 k6
  rw [← Y2.out]
  obtain ⟨p, held, left, hb, hl, hr⟩ := hf6
  have HR := hide hr
  clear hr
  go_wp2_with fail
  have hxl : x < 1000 := by
    have e1 := X2.out
    have e2 := Fo.val_lt (r1.take (Fo.lenSpan s).2)
    rw [← e1, List.length_take, Nat.min_eq_left NUM.out.2.2.2.2.2.1] at e2
    have : 2 ^ (Fo.lenSpan s).2 ≤ 2 ^ 5 := Nat.pow_le_pow_right (by omega) NUM.out.2.2.2.1.1
    omega
  refine (again_no hb ((Fo.lenSpan s).1 + x) ((Fo.distSpan t).1 + y) (by have := NUM.out; omega) NUM.out.1 NUM.out.2.1 (by have := NUM.out; omega) NUM.out.2.2.1 hw).mono ?_
  rintro e w7 ⟨rfl, k7⟩
  exact ⟨rfl, rfl, kk6.trans k7⟩
/-- One part of which too much comes out. -/
theorem part_no (bc oc : Nat) (c : Fo.Codes) (hc : CodesOk c) (hC : Codes4 B br bf bd off cap d most fixed window bc oc c w) {rest : List Bool} (h : Fl B br bf bd off cap d most fixed w rest window ov out)
    (hw : window ≤ 32768) (hp : Fo.part c window most rest out = .error 6) :
    Calls Tryz.prog 278 #[.pointer (some ⟨bf, 0, none⟩), .pointer (some ⟨bc, oc, none⟩)] w fun e w' => e = gaveUp 6 ∧ Kept 5 B [br, bf] w w' := by
  unfold Fo.part at hp
  cases h1 : Fo.sym c.cs c.ss rest with
  | none => rw [h1] at hp; cases hp
  | some x =>
    obtain ⟨s, r1⟩ := x
    rw [h1] at hp; simp only [] at hp
    by_cases c1 : s < 256
    · rw [if_pos c1] at hp
      by_cases c0 : out.length + 1 ≤ most
      · rw [if_pos c0] at hp; cases hp
      · exact part_lit_no bc oc c hc hC h s h1 c1 (by omega)
    rw [if_neg c1] at hp
    by_cases c2 : s = 256
    · rw [if_pos c2] at hp; cases hp
    rw [if_neg c2] at hp
    by_cases c3 : 285 < s
    · rw [if_pos c3] at hp; cases hp
    rw [if_neg c3] at hp
    cases h2 : Fo.take (Fo.lenSpan s).2 r1 with
    | none => rw [h2] at hp; cases hp
    | some x =>
      obtain ⟨x, r2⟩ := x
      rw [h2] at hp; simp only [] at hp
      cases h3 : Fo.sym c.cd c.sd r2 with
      | none => rw [h3] at hp; cases hp
      | some y =>
        obtain ⟨t, r3⟩ := y
        rw [h3] at hp; simp only [] at hp
        by_cases c4 : 29 < t
        · rw [if_pos c4] at hp; cases hp
        rw [if_neg c4] at hp
        cases h4 : Fo.take (Fo.distSpan t).2 r3 with
        | none => rw [h4] at hp; cases hp
        | some z =>
          obtain ⟨y, r4⟩ := z
          rw [h4] at hp; simp only [] at hp
          by_cases c5 : (Fo.distSpan t).1 + y ≤ out.length ∧ (Fo.distSpan t).1 + y ≤ window
          · rw [if_pos c5] at hp
            by_cases c6 : out.length + ((Fo.lenSpan s).1 + x) ≤ most
            · rw [if_pos c6] at hp; cases hp
            · exact part_copy_no bc oc c hc hC h s x t y h1 (by omega) (by omega) h2 h3 (by omega) h4 c5.1 c5.2 (by omega) hw
          · rw [if_neg c5] at hp; cases hp
/-- What the last region of stored reads. -/
def Sst (bf : Nat) (ptr : Value) (_L : Array Bool) (W : World) : Prop := W.cell? ⟨bf, 0, none⟩ = some ptr
set_option maxRecDepth 100000 in
set_option maxHeartbeats 1000000 in
theorem stored_no (D : List Nat) (hD0 : 0 < D.length) (hD1 : D.length ≤ 65535) (hD : ∀ i, i < D.length → nth D i < 256) {rest rest' : List Bool} (h : Fl B br bf bd off cap d most fixed w rest window ov out)
    (hr : rest.drop (rest.length % 8) = Fo.numBits 16 D.length ++ (Fo.numBits 16 (65535 - D.length) ++ (Fo.bitsOf D ++ rest'))) (h8 : rest'.length % 8 = 0) (ho : most < out.length + D.length) :
    Calls Tryz.prog 222 #[.pointer (some ⟨bf, 0, none⟩)] w fun e w' => e = gaveUp 6 ∧ Kept 5 B [br, bf] w w' := by
  have HR := hide hr
  have H8 := hide h8
  clear hr h8
  have tok : True := trivial
  go_enter Tryz.func222, Tryz.ntmps222
  go_wp2_with fail
  refine (align_ok h).mono ?_
  rintro e w1 ⟨rfl, ⟨p1, held1, hb1, hq1⟩, k1⟩
  rw [HR.out] at hq1
  have hf1 : Fl B br bf bd off cap d most fixed w1 (Fo.numBits 16 D.length ++ (Fo.numBits 16 (65535 - D.length) ++ (Fo.bitsOf D ++ rest'))) window ov out := ⟨p1, held1, 0, hb1, by omega, by rw [← hq1]; simp [bitsLeft, Fo.numBits]⟩
  clear hb1 hq1 h
  go_wp2_with fail
  go_region_with (first | (go_at_call 221; have _t := tok; refine (bitsNum_ok 16 D.length (by omega) (by omega) hf1.drew).mono ?_; rintro e w2 ⟨rfl, hf2, k2⟩; clear tok) | (go_at_call 221; refine (bitsNum_ok 16 (65535 - D.length) (by omega) (by omega) hf2).mono ?_; rintro e w3 ⟨rfl, hf3, k3⟩))
  have kk := (k1.drew.trans k2).trans k3
  clear k1 k2 k3 hf1 hf2
  have e1 : ((65535 - D.length : Nat) : Int) = 65535 - (D.length : Int) := by omega
  rw [e1]
  go_wp2_with fail
  refine (must_yes _).mono ?_
  rintro e w' ⟨rfl, rfl⟩
  obtain ⟨p, held, hb, hq⟩ := hf3.whole (by rw [List.length_append, Fo.bitsOf_length]; have := H8.out; omega)
  obtain ⟨q1, q2, q3⟩ := hb.bytes D hD rest' hq
  have Q2 := hide q2
  have Q3 := hide q3
  clear q2 q3 hq hf3
  have c0 := hb.c0
  go_wp2_with fail
  refine wp_region_T (Sst bf (.pointer (some ⟨br, 0, none⟩))) (by kernel_rfl) ?_
  intro hD
  have hS : Sst bf (.pointer (some ⟨br, 0, none⟩)) (Array.replicate 13 false) w'.drew := c0
  refine wpAnyT_take (i := 0) (v := ?_) rfl (by kernel_rfl) (by kernel_rfl) (by kernel_rfl) (fun _ _ _ h => h) (fun _ _ h => h) (fun _ _ h => h) hD (Or.inl ⟨by rfl, ?_⟩) hS ?_
  rotate_left
  · intro W hW; obtain ⟨_, _, _, f0⟩ := hW; unfold Sst at f0; go_simp; try (with_reducible rfl)
  clear hD hS; intro hD hS; (try simp only [Act.put, List.setIfInBounds_toArray, List.set_cons_zero, List.set_cons_succ])
  refine wpAnyT_take (i := 1) (v := ?_) rfl (by kernel_rfl) (by kernel_rfl) (by kernel_rfl) (fun _ _ _ h => h) (fun _ _ h => h) (fun _ _ h => h) hD (Or.inl ⟨by rfl, ?_⟩) hS ?_
  rotate_left
  · intro W hW; obtain ⟨_, _, _, f0⟩ := hW; unfold Sst at f0; go_simp; try (with_reducible rfl)
  clear hD hS; intro hD hS; (try simp only [Act.put, List.setIfInBounds_toArray, List.set_cons_zero, List.set_cons_succ])
  refine wpAnyT_take (i := 2) (v := ?_) rfl (by kernel_rfl) (by kernel_rfl) (by kernel_rfl) (fun _ _ _ h => h) (fun _ _ h => h) (fun _ _ h => h) hD (Or.inl ⟨by rfl, ?_⟩) hS ?_
  rotate_left
  · intro W hW; obtain ⟨_, _, _, f0⟩ := hW; unfold Sst at f0; go_simp; try (with_reducible rfl)
  clear hD hS; intro hD hS; (try simp only [Act.put, List.setIfInBounds_toArray, List.set_cons_zero, List.set_cons_succ])
  refine wpAnyT_take (i := 3) (v := ?_) rfl (by kernel_rfl) (by kernel_rfl) (by kernel_rfl) (fun _ _ _ h => h) (fun _ _ h => h) (fun _ _ h => h) hD (Or.inl ⟨by rfl, ?_⟩) hS ?_
  rotate_left
  · intro W hW; obtain ⟨_, _, _, f0⟩ := hW; unfold Sst at f0; go_simp; try (with_reducible rfl)
  clear hD hS; intro hD hS; (try simp only [Act.put, List.setIfInBounds_toArray, List.set_cons_zero, List.set_cons_succ])
  refine wpAnyT_take (i := 4) (v := ?_) rfl (by kernel_rfl) (by kernel_rfl) (by kernel_rfl) (fun _ _ _ h => h) (fun _ _ h => h) (fun _ _ h => h) hD (Or.inl ⟨by rfl, ?_⟩) hS ?_
  rotate_left
  · intro W hW; obtain ⟨_, _, _, f0⟩ := hW; unfold Sst at f0; go_simp; try (with_reducible rfl)
  clear hD hS; intro hD hS; (try simp only [Act.put, List.setIfInBounds_toArray, List.set_cons_zero, List.set_cons_succ])
  refine wpAnyT_take (i := 5) (v := ?_) rfl (by kernel_rfl) (by kernel_rfl) (by kernel_rfl) (fun _ _ _ h => h) (fun _ _ h => h) (fun _ _ h => h) hD (Or.inl ⟨by rfl, ?_⟩) hS ?_
  rotate_left
  · intro W hW; obtain ⟨_, _, _, f0⟩ := hW; unfold Sst at f0; go_simp; try (with_reducible rfl)
  clear hD hS; intro hD hS; (try simp only [Act.put, List.setIfInBounds_toArray, List.set_cons_zero, List.set_cons_succ])
  refine wpAnyT_take (i := 6) (v := ?_) rfl (by kernel_rfl) (by kernel_rfl) (by kernel_rfl) (fun _ _ _ h => h) (fun _ _ h => h) (fun _ _ h => h) hD (Or.inl ⟨by rfl, ?_⟩) hS ?_
  rotate_left
  · intro W hW; obtain ⟨_, _, _, f0⟩ := hW; unfold Sst at f0; go_simp; try (with_reducible rfl)
  clear hD hS; intro hD hS; (try simp only [Act.put, List.setIfInBounds_toArray, List.set_cons_zero, List.set_cons_succ])
  refine wpAnyT_take (i := 7) (v := ?_) rfl (by kernel_rfl) (by kernel_rfl) (by kernel_rfl) (fun _ _ _ h => h) (fun _ _ h => h) (fun _ _ h => h) hD (Or.inl ⟨by rfl, ?_⟩) hS ?_
  rotate_left
  · intro W hW; obtain ⟨_, _, _, f0⟩ := hW; unfold Sst at f0; go_simp; try (with_reducible rfl)
  clear hD hS; intro hD hS; (try simp only [Act.put, List.setIfInBounds_toArray, List.set_cons_zero, List.set_cons_succ])
  refine wpAnyT_take (i := 8) (v := ?_) rfl (by kernel_rfl) (by kernel_rfl) (by kernel_rfl) (fun _ _ _ h => h) (fun _ _ h => h) (fun _ _ h => h) hD (Or.inl ⟨by rfl, ?_⟩) hS ?_
  rotate_left
  · intro W hW; obtain ⟨_, _, _, f0⟩ := hW; unfold Sst at f0; go_simp; try (with_reducible rfl)
  clear hD hS; intro hD hS; (try simp only [Act.put, List.setIfInBounds_toArray, List.set_cons_zero, List.set_cons_succ])
  refine wpAnyT_take (i := 9) (v := ?_) rfl (by kernel_rfl) (by kernel_rfl) (by kernel_rfl) (fun _ _ _ h => h) (fun _ _ h => h) (fun _ _ h => h) hD (Or.inl ⟨by rfl, ?_⟩) hS ?_
  rotate_left
  · intro W hW; obtain ⟨_, _, _, f0⟩ := hW; unfold Sst at f0; go_simp; try (with_reducible rfl)
  clear hD hS; intro hD hS; (try simp only [Act.put, List.setIfInBounds_toArray, List.set_cons_zero, List.set_cons_succ])
  refine wpAnyT_take (i := 10) (v := ?_) rfl (by kernel_rfl) (by kernel_rfl) (by kernel_rfl) (fun _ _ _ h => h) (fun _ _ h => h) (fun _ _ h => h) hD (Or.inl ⟨by rfl, ?_⟩) hS ?_
  rotate_left
  · intro W hW; obtain ⟨_, _, _, f0⟩ := hW; unfold Sst at f0; go_simp; try (with_reducible rfl)
  clear hD hS; intro hD hS; (try simp only [Act.put, List.setIfInBounds_toArray, List.set_cons_zero, List.set_cons_succ])
  refine wpAnyT_one (i := 11) (by kernel_rfl) rfl hD (fun K' hK => ?_)
  go_simp
  refine (take_ok (hb.rd.drewN 1) D.length hD0 q1).mono ?_
  rintro e w4 ⟨rfl, r4, k4⟩
  refine hK.out _ _ ((hb.rdKept r4 (((Kept.refl _ _ _ _).drewN 1).trans k4)).c0) (fun hD2 hS2 => ?_)
  clear hD hS hK K'
  have hD := hD2
  have hS := hS2
  clear hD2 hS2
  (try simp only [Act.put, List.setIfInBounds_toArray, List.set_cons_zero, List.set_cons_succ])
  refine wpAnyT_one (i := 12) (by kernel_rfl) rfl hD (fun K' hK => ?_)
  go_simp
  refine (put_no r4 D.length (some ⟨bd, off + p, none⟩) (cap - p) (by omega) ho).mono ?_
  rintro e w5 ⟨rfl, q, rfl⟩
  exact ⟨rfl, rfl, (kk.drewN 1).trans ((k4.drewN q).mono (by simp))⟩
end Go.Proofs.YtgkljcmjnphpeaaGreatDoor
namespace Go.Proofs.YtgkljcmjnphpeaaGreatDoor
open Go.RowKit
variable {w : World}
/-- A writer of bits in memory, at the head of block bw (of type T, with the cells rest behind it): its bytes. -/
structure Wq (B bw T : Nat) (rest : List Value) (w : World) (ov : Value) (out : List Nat) (used : Nat) : Prop where
  hb : B ≤ bw
  hT : T ≠ 5
  blk : w.heap[bw]? = some (.cells (ov :: .int .i64 used :: rest).toArray T (0, 0))
  own : w.ownsRow B 5 1 ov out.length (out.map fun x : Nat => .int .u8 (x : Int))
/-- And the bits bs that they say. -/
structure Wr (B bw T : Nat) (rest : List Value) (w : World) (bs : List Bool) (ov : Value) (out : List Nat) (used : Nat) : Prop where
  q : Wq B bw T rest w ov out used
  bits : Fo.BW out used bs
variable {B bw T : Nat} {rest : List Value} {ov : Value} {out : List Nat} {used : Nat} {bs : List Bool}
theorem Wq.c0 (h : Wq B bw T rest w ov out used) : w.cell? ⟨bw, 0, none⟩ = some ov := by rw [cell_blk h.blk]; simp
theorem Wq.c1 (h : Wq B bw T rest w ov out used) : w.cell? ⟨bw, 1, none⟩ = some (.int .i64 used) := by rw [cell_blk h.blk]; simp
theorem Wq.fz (h : Wq B bw T rest w ov out used) (i : Nat) : w.frozen? ⟨bw, i, none⟩ = false := free_blk h.blk
theorem Wq.drewN (h : Wq B bw T rest w ov out used) (n : Nat) : Wq B bw T rest (w.drewN n) ov out used := ⟨h.hb, h.hT, h.blk, h.own⟩
theorem Wq.drew (h : Wq B bw T rest w ov out used) : Wq B bw T rest w.drew ov out used := ⟨h.hb, h.hT, h.blk, h.own⟩
theorem Wr.drew (h : Wr B bw T rest w bs ov out used) : Wr B bw T rest w.drew bs ov out used := ⟨h.q.drew, h.bits⟩
theorem Wr.drewN (h : Wr B bw T rest w bs ov out used) (n : Nat) : Wr B bw T rest (w.drewN n) bs ov out used := ⟨h.q.drewN n, h.bits⟩
theorem Wq.sz (h : Wq B bw T rest w ov out used) : B < w.heap.size := by have := h.hb; have := lt_of_block h.blk; omega
theorem Wq.set1 (h : Wq B bw T rest w ov out used) (u : Nat) : Wq B bw T rest (w.setCell ⟨bw, 1, none⟩ (.int .i64 u)) ov out u := by
  refine ⟨h.hb, h.hT, ?_, ?_⟩
  · rw [blk_setCell _ h.blk]; simp
  · exact ownsRow_setCell_other h.own (own_ne h.own h.blk h.hT) _
theorem own_form {w : World} {B e n size : Nat} {v : Value} {xs : List Value} (h : w.ownsRow B e size v n xs) (hn : 0 < n) : ∃ g c, v = .slice (some ⟨g, 0, none⟩) n c ∧ B ≤ g := by
  rcases h.2 with ⟨_, h0⟩ | ⟨g, cap, cur, hv, hb, _⟩
  · omega
  · exact ⟨g, cap, hv, hb⟩
/-- One byte laid over the last. -/
theorem Wq.put {g c : Nat} {pre : List Nat} {last : Nat} (h : Wq B bw T rest w (.slice (some ⟨g, 0, none⟩) (pre ++ [last]).length c) (pre ++ [last]) used) (x u : Nat) :
    Wq B bw T rest ((w.setCell ⟨g, pre.length, none⟩ (.int .u8 x)).setCell ⟨bw, 1, none⟩ (.int .i64 u)).drew (.slice (some ⟨g, 0, none⟩) (pre ++ [x]).length c) (pre ++ [x]) u ∧ Kept 5 B [bw] w ((w.setCell ⟨g, pre.length, none⟩ (.int .u8 x)).setCell ⟨bw, 1, none⟩ (.int .i64 u)).drew := by
  have hne : bw ≠ g := fun e => own_ne h.own h.blk h.hT (by rw [e]; rfl)
  obtain ⟨hBg, cur, fz, hrow⟩ := own_row h.own g rfl
  refine ⟨Wq.drew ⟨h.hb, h.hT, ?_, ?_⟩, Kept.drew ?_⟩
  · have h1 : (w.setCell ⟨g, pre.length, none⟩ (.int .u8 x)).heap[bw]? = some (.cells (Value.slice (some ⟨g, 0, none⟩) (pre ++ [last]).length c :: .int .i64 used :: rest).toArray T (0, 0)) := by rw [blk_setCell_ne _ hne]; exact h.blk
    rw [blk_setCell _ h1]; simp
  · have h2 := h.own.stored pre.length (.int .u8 x)
    have e1 : (((pre ++ [last]).map fun x : Nat => Value.int .u8 (x : Int)).set pre.length (.int .u8 x)) = ((pre ++ [x]).map fun x : Nat => Value.int .u8 (x : Int)) := by
      simp [List.set_append]
    rw [e1] at h2
    have e2 : (pre ++ [last]).length = (pre ++ [x]).length := by simp
    rw [e2] at h2
    exact ownsRow_setCell_other h2.1 (by simp [Value.ownBlock]; omega) _
  · refine Kept.setCell ?_ (by simp) _
    refine ⟨rfl, rfl, rfl, by simp [World.setCell], fun k o hk ho hc => ?_⟩
    rw [blk_setCell_ne _ (fun e => ?_)]
    · exact ho
    · subst e
      rw [hrow] at ho
      rcases hc with hc | hc
      · omega
      · exact hc cur fz (Option.some.inj ho).symm
theorem Wq.alloc (h : Wq B bw T rest w ov out used) (o : Obj) : Wq B bw T rest (w.alloc o) ov out used := ⟨h.hb, h.hT, blk_alloc _ h.blk, h.own.alloc _⟩
theorem Wr.alloc (h : Wr B bw T rest w bs ov out used) (o : Obj) : Wr B bw T rest (w.alloc o) bs ov out used := ⟨h.q.alloc o, h.bits⟩
/-- A writer of bits in memory, and what it has been given. -/
def Wx (B bw T : Nat) (rest : List Value) (w : World) (bs : List Bool) : Prop := ∃ ov out used, Wr B bw T rest w bs ov out used
theorem Wx.drew (h : Wx B bw T rest w bs) : Wx B bw T rest w.drew bs := by obtain ⟨a, b, c, d⟩ := h; exact ⟨a, b, c, d.drew⟩
theorem Wx.drewN (h : Wx B bw T rest w bs) (n : Nat) : Wx B bw T rest (w.drewN n) bs := by obtain ⟨a, b, c, d⟩ := h; exact ⟨a, b, c, d.drewN n⟩
theorem Wx.alloc (h : Wx B bw T rest w bs) (o : Obj) : Wx B bw T rest (w.alloc o) bs := by obtain ⟨a, b, c, d⟩ := h; exact ⟨a, b, c, d.alloc o⟩
end Go.Proofs.YtgkljcmjnphpeaaGreatDoor
namespace Go.Proofs.YtgkljcmjnphpeaaGreatDoor
open Go.RowKit
variable {w : World}
def tnth (t : List (Nat × Nat)) (i : Nat) : Nat × Nat := t.getD i (0, 0)
/-- Codes in memory, by their symbols. -/
def CodeRow (w : World) (g : Nat) (t : List (Nat × Nat)) : Prop :=
  ∃ C : Array Value, w.heap[g]? = some (.cells C 197 (0, 0)) ∧ C.size = 2 * t.length ∧ ∀ i, i < t.length → C[i * 2]? = some (.int .i64 ((tnth t i).1 : Nat)) ∧ C[i * 2 + 1]? = some (.int .i64 ((tnth t i).2 : Nat))
theorem CodeRow.set {g : Nat} {t : List (Nat × Nat)} (h : CodeRow w g t) (s : Nat) (x : Nat × Nat) :
    CodeRow ((w.setCell ⟨g, s * 2, none⟩ (.int .i64 (x.1 : Nat))).setCell ⟨g, s * 2 + 1, none⟩ (.int .i64 (x.2 : Nat))) g (t.set s x) := by
  obtain ⟨C, h1, h2, h3⟩ := h
  refine ⟨_, blk_setCell _ (blk_setCell _ h1), by simp [h2], fun i hi => ?_⟩
  rw [List.length_set] at hi
  obtain ⟨e1, e2⟩ := h3 i hi
  by_cases c : s = i
  · subst c
    have e : tnth (t.set s x) s = x := by simp [tnth, hi]
    rw [e]
    constructor
    · rw [Array.getElem?_setIfInBounds_ne (by omega), Array.getElem?_setIfInBounds_self_of_lt (by omega)]
    · rw [Array.getElem?_setIfInBounds_self_of_lt (by simp; omega)]
  · have e : tnth (t.set s x) i = tnth t i := by simp [tnth, List.getElem?_set_ne c]
    rw [e]
    constructor
    · rw [Array.getElem?_setIfInBounds_ne (by omega), Array.getElem?_setIfInBounds_ne (by omega)]; exact e1
    · rw [Array.getElem?_setIfInBounds_ne (by omega), Array.getElem?_setIfInBounds_ne (by omega)]; exact e2
theorem CodeRow.there {g : Nat} {t : List (Nat × Nat)} (h : CodeRow w g t) (s : Nat) (hs : s < t.length) : w.there g (s * 2) 2 := by
  obtain ⟨C, h1, h2, h3⟩ := h
  intro j hj
  refine ⟨?_, free_blk h1⟩
  rw [cell_blk h1, Array.getElem?_eq_getElem (by omega)]; rfl
theorem CodeRow.range {g : Nat} {t : List (Nat × Nat)} (h : CodeRow w g t) (s : Nat) (hs : s < t.length) : w.rangeAt g (s * 2) [.int .i64 ((tnth t s).1 : Nat), .int .i64 ((tnth t s).2 : Nat)] := by
  obtain ⟨C, h1, h2, h3⟩ := h
  intro j v hj
  obtain ⟨e1, e2⟩ := h3 s hs
  rw [cell_blk h1]
  match j, hj with
  | 0, hj => simp at hj; subst hj; exact e1
  | 1, hj => simp at hj; subst hj; exact e2
theorem CodeRow.kept {e B : Nat} {S : List Nat} {w' : World} {g : Nat} {t : List (Nat × Nat)} (h : CodeRow w g t) (k : Kept 5 B S w w') (hS : g ∉ S) : CodeRow w' g t := by
  obtain ⟨C, h1, h2⟩ := h
  exact ⟨C, k.block g _ hS h1 (Or.inr (by intro c fz e; simp at e)), h2⟩
theorem CodeRow.below {B : Nat} {w' : World} {g : Nat} {t : List (Nat × Nat)} (h : CodeRow w g t) (k : Below B w w') (hg : g < B) : CodeRow w' g t := by
  obtain ⟨C, h1, h2⟩ := h
  exact ⟨C, by rw [k.block g hg]; exact h1, h2⟩
/-- What is laid by the codes of one length. -/
def laid (ss : List Nat) (t : List (Nat × Nat)) (len V P : Nat) : Nat → List (Nat × Nat)
  | 0 => t
  | i + 1 => (laid ss t len V P i).set (nth ss (P + i)) (V + i, len)
theorem Cd.below {bc oc B : Nat} {cs ss : List Nat} {w' : World} (h : Cd w bc oc cs ss) (k : Below B w w') (hb : bc < B) (hs : ∀ g c, w.cell? ⟨bc, oc + 16, none⟩ = some (.slice (some ⟨g, 0, none⟩) ss.length c) → g < B) : Cd w' bc oc cs ss := by
  obtain ⟨h1, g, c, h2, h3⟩ := h
  have := hs g c h2
  exact ⟨fun i hi => (k.cell (p := ⟨bc, oc + i, none⟩) hb).trans (h1 i hi), g, c, (k.cell (p := ⟨bc, oc + 16, none⟩) hb).trans h2, fun i hi => (k.cell (p := ⟨g, i, none⟩) this).trans (h3 i hi)⟩
end Go.Proofs.YtgkljcmjnphpeaaGreatDoor
