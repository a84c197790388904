/- Filter 4 read: what is right, too little room, what lacks its end. -/
import Derived.Test.YtgkljcmjnphpeaaDoorChain
import Derived.Test.YtgkljcmjnphpeaaDoorEnc
set_option linter.unusedVariables false
set_option linter.unusedSimpArgs false
/- Filter 4 read: what is right, too little room, what lacks its end. -/
namespace Go.Proofs.YtgkljcmjnphpeaaDoor
open Go.RowKit
variable {B br bf bd off cap : Nat} {d : List Nat} {most : Nat} {fixed : List Value} {w : World} {p held left window : Nat} {ov : Value} {out : List Nat}

theorem again_no (h : Bi B br bf bd off cap d most fixed w p held left window ov out) (len dist : Nat) (h1 : 1 ≤ dist) (h2 : dist ≤ out.length) (h3 : dist ≤ window) (hlen : len ≤ 1000000) (h4 : most < out.length + len) (h5 : window ≤ 32768) :
    Calls Tryd.prog 85 #[.pointer (some ⟨bf, 0, none⟩), .int .i64 len, .int .i64 dist] w fun e w' => e = gaveUp 6 ∧ Kept 5 B [br, bf] w w' := by
  have c0 := h.c0
  have c3 := h.c3
  have r2 := h.rd.c2
  have lm := h.rd.lm
  have lo := h.rd.lo
  obtain ⟨ao, oc, hov⟩ := own_slice h.rd.own
  have HOV := hide hov
  rw [hov] at r2
  clear hov
  rcases Nat.lt_or_ge window out.length with hm | hm
  all_goals
    go_enter Tryd.func85, Tryd.ntmps85
    go_wp2_with fail
    go_quiet ((first | (go_at_call 10; exact Calls.quiet_of_same (within_int_yes _ _ _ _ (by omega) (by omega))) | (go_at_call 39; exact Calls.quiet_of_same (must_yes _))))
    go_wp2_with fail
    refine (room_no (h.rd.drewN _) len hlen h4).mono ?_
    rintro e w' ⟨rfl, q, rfl⟩
    exact ⟨rfl, rfl, ((Kept.refl _ _ _ _).drewN _).drewN _⟩

theorem part_lit_no (bc oc : Nat) (c : Fo.Codes) (hc : CodesOk c) (hC : Codes4 B br bf bd off cap d most fixed window bc oc c w) {rest rest' : List Bool} (h : Fl B br bf bd off cap d most fixed w rest window ov out)
    (s : Nat) (hs : Fo.sym c.cs c.ss rest = some (s, rest')) (h1 : s < 256) (ho : most < out.length + 1) :
    Calls Tryd.prog 77 #[.pointer (some ⟨bf, 0, none⟩), .pointer (some ⟨bc, oc, none⟩)] w fun e w' => e = gaveUp 6 ∧ Kept 5 B [br, bf] w w' := by
  have HS := hide hs
  clear hs
  go_enter Tryd.func77, Tryd.ntmps77
  go_wp2_with fail
  go_region_with (go_at_call 83; refine (symbol_ok bc oc c.cs c.ss hc.s1 hc.l1 (fun w' r hf k => (hC w' r _ _ hf (((Kept.refl _ _ _ _).drew).trans k)).1) HS.out h.drew).mono ?_; rintro e w1 ⟨rfl, hf1, k1⟩)
  obtain ⟨p, held, left, hb, hl, hr⟩ := hf1
  have c0 := hb.c0
  clear hr
  have h1' : (s : Int) < 256 := by omega
  go_wp2_with fail
  refine (put_no (hb.rd.alloc _) 1 _ 1 (by omega) ho).mono ?_
  rintro e w2 ⟨rfl, q, rfl⟩
  exact ⟨rfl, rfl, ((((Kept.refl _ _ _ _).drew).trans k1).alloc _).drewN q⟩

set_option maxRecDepth 100000 in
set_option maxHeartbeats 1000000 in
theorem part_copy_no (bc oc : Nat) (c : Fo.Codes) (hc : CodesOk c) (hC : Codes4 B br bf bd off cap d most fixed window bc oc c w) {rest r1 r2 r3 r4 : List Bool} (h : Fl B br bf bd off cap d most fixed w rest window ov out)
    (s x t y : Nat) (hs : Fo.sym c.cs c.ss rest = some (s, r1)) (a1 : 257 ≤ s) (a2 : s ≤ 285) (hx : Fo.take (Fo.lenSpan s).2 r1 = some (x, r2)) (ht : Fo.sym c.cd c.sd r2 = some (t, r3)) (a3 : t ≤ 29)
    (hy : Fo.take (Fo.distSpan t).2 r3 = some (y, r4)) (b1 : (Fo.distSpan t).1 + y ≤ out.length) (b2 : (Fo.distSpan t).1 + y ≤ window) (b3 : most < out.length + ((Fo.lenSpan s).1 + x)) (hw : window ≤ 32768) :
    Calls Tryd.prog 77 #[.pointer (some ⟨bf, 0, none⟩), .pointer (some ⟨bc, oc, none⟩)] w fun e w' => e = gaveUp 6 ∧ Kept 5 B [br, bf] w w' := by
  have HS := hide hs
  have HT := hide ht
  have l1 := lenSpan_le ⟨s, by omega⟩ a1
  have l2 := distSpan_le ⟨t, by omega⟩
  simp only [] at l1 l2
  obtain ⟨x1, x2, x3⟩ := Fo.take_rest hx
  obtain ⟨y1, y2, y3⟩ := Fo.take_rest hy
  have X2 := hide x2
  have X3 := hide x3
  have Y2 := hide y2
  have Y3 := hide y3
  have NUM := hide (And.intro b1 (And.intro b2 (And.intro b3 (And.intro l1 (And.intro l2 (And.intro x1 y1))))))
  clear hs ht hx hy x2 x3 y2 y3 b1 b2 b3 l1 l2 x1 y1
  have a1' : (257 : Int) ≤ (s : Int) := by omega
  have a2' : (s : Int) ≤ 285 := by omega
  have a3' : (t : Int) ≤ 29 := by omega
  have e1 : ((s : Int) == 256) = false := by simp; omega
  go_enter Tryd.func77, Tryd.ntmps77
  go_wp2_with fail
  go_region_with (go_at_call 83; refine (symbol_ok bc oc c.cs c.ss hc.s1 hc.l1 (fun w' r hf k => (hC w' r _ _ hf (((Kept.refl _ _ _ _).drew).trans k)).1) HS.out h.drew).mono ?_; rintro e w1 ⟨rfl, hf1, k1⟩)
  have kk := ((Kept.refl 5 B [br, bf] w).drew).trans k1
  clear k1
  go_wp2_with fail
  refine (within_int_yes _ _ _ _ a1' a2').mono ?_
  rintro e w' ⟨rfl, rfl⟩
  go_wp2_with fail
  refine (must_yes _).mono ?_
  rintro e w' ⟨rfl, rfl⟩
  go_wp2_with fail
  refine (lengthSpan_ok s a1 a2 _).mono ?_
  rintro e w2 ⟨rfl, o2, rfl⟩
  go_wp2_with fail
  refine (within_ok (Fo.lenSpan s) (by have := NUM.out; omega) (by have := NUM.out; omega) NUM.out.2.2.2.2.2.1 (hf1.alloc o2)).mono ?_
  rintro e w3 ⟨rfl, hf3, k3⟩
  rw [← X3.out] at hf3
  have kk3 := (kk.alloc o2).trans k3
  clear kk k3
  rw [← X2.out]
  go_wp2_with fail
  go_region_with (go_at_call 83; refine (symbol_ok bc (oc + 17) c.cd c.sd hc.s2 hc.l2 (fun w' r hf k => (hC w' r _ _ hf ((kk3.drew).trans k)).2) HT.out hf3.drew).mono ?_; rintro e w4 ⟨rfl, hf4, k4⟩)
  have kk4 := (kk3.drew).trans k4
  clear kk3 k4
  go_wp2_with fail
  refine (within_int_yes _ _ _ _ (by omega) a3').mono ?_
  rintro e w' ⟨rfl, rfl⟩
  go_wp2_with fail
  refine (must_yes _).mono ?_
  rintro e w' ⟨rfl, rfl⟩
  go_wp2_with fail
  refine (distanceSpan_ok t a3 _).mono ?_
  rintro e w5 ⟨rfl, o5, rfl⟩
  go_wp2_with fail
  refine (within_ok (Fo.distSpan t) (by have := NUM.out; omega) (by have := NUM.out; omega) NUM.out.2.2.2.2.2.2 (hf4.alloc o5)).mono ?_
  rintro e w6 ⟨rfl, hf6, k6⟩
  rw [← Y3.out] at hf6
  have kk6 := (kk4.alloc o5).trans k6
  clear kk4 k6
  rw [← Y2.out]
  obtain ⟨p, held, left, hb, hl, hr⟩ := hf6
  have HR := hide hr
  clear hr
  go_wp2_with fail
  have hxl : x < 1000 := by
    have e1 := X2.out
    have e2 := Fo.val_lt (r1.take (Fo.lenSpan s).2)
    rw [← e1, List.length_take, Nat.min_eq_left NUM.out.2.2.2.2.2.1] at e2
    have : 2 ^ (Fo.lenSpan s).2 ≤ 2 ^ 5 := Nat.pow_le_pow_right (by omega) NUM.out.2.2.2.1.1
    omega
  refine (again_no hb ((Fo.lenSpan s).1 + x) ((Fo.distSpan t).1 + y) (by have := NUM.out; omega) NUM.out.1 NUM.out.2.1 (by have := NUM.out; omega) NUM.out.2.2.1 hw).mono ?_
  rintro e w7 ⟨rfl, k7⟩
  exact ⟨rfl, rfl, kk6.trans k7⟩

/-- One part of which too much comes out. -/
theorem part_no (bc oc : Nat) (c : Fo.Codes) (hc : CodesOk c) (hC : Codes4 B br bf bd off cap d most fixed window bc oc c w) {rest : List Bool} (h : Fl B br bf bd off cap d most fixed w rest window ov out)
    (hw : window ≤ 32768) (hp : Fo.part c window most rest out = .error 6) :
    Calls Tryd.prog 77 #[.pointer (some ⟨bf, 0, none⟩), .pointer (some ⟨bc, oc, none⟩)] w fun e w' => e = gaveUp 6 ∧ Kept 5 B [br, bf] w w' := by
  unfold Fo.part at hp
  cases h1 : Fo.sym c.cs c.ss rest with
  | none => rw [h1] at hp; cases hp
  | some x =>
    obtain ⟨s, r1⟩ := x
    rw [h1] at hp; simp only [] at hp
    by_cases c1 : s < 256
    · rw [if_pos c1] at hp
      by_cases c0 : out.length + 1 ≤ most
      · rw [if_pos c0] at hp; cases hp
      · exact part_lit_no bc oc c hc hC h s h1 c1 (by omega)
    rw [if_neg c1] at hp
    by_cases c2 : s = 256
    · rw [if_pos c2] at hp; cases hp
    rw [if_neg c2] at hp
    by_cases c3 : 285 < s
    · rw [if_pos c3] at hp; cases hp
    rw [if_neg c3] at hp
    cases h2 : Fo.take (Fo.lenSpan s).2 r1 with
    | none => rw [h2] at hp; cases hp
    | some x =>
      obtain ⟨x, r2⟩ := x
      rw [h2] at hp; simp only [] at hp
      cases h3 : Fo.sym c.cd c.sd r2 with
      | none => rw [h3] at hp; cases hp
      | some y =>
        obtain ⟨t, r3⟩ := y
        rw [h3] at hp; simp only [] at hp
        by_cases c4 : 29 < t
        · rw [if_pos c4] at hp; cases hp
        rw [if_neg c4] at hp
        cases h4 : Fo.take (Fo.distSpan t).2 r3 with
        | none => rw [h4] at hp; cases hp
        | some z =>
          obtain ⟨y, r4⟩ := z
          rw [h4] at hp; simp only [] at hp
          by_cases c5 : (Fo.distSpan t).1 + y ≤ out.length ∧ (Fo.distSpan t).1 + y ≤ window
          · rw [if_pos c5] at hp
            by_cases c6 : out.length + ((Fo.lenSpan s).1 + x) ≤ most
            · rw [if_pos c6] at hp; cases hp
            · exact part_copy_no bc oc c hc hC h s x t y h1 (by omega) (by omega) h2 h3 (by omega) h4 c5.1 c5.2 (by omega) hw
          · rw [if_neg c5] at hp; cases hp

theorem coded_no (bc oc : Nat) (c : Fo.Codes) (hc : CodesOk c) (hC : Codes4 B br bf bd off cap d most fixed window bc oc c w) {rest : List Bool} (h : Fl B br bf bd off cap d most fixed w rest window ov out)
    (hw : window ≤ 32768) (hp : Fo.PartsTo c window most rest out (.error 6)) :
    Calls Tryd.prog 61 #[.pointer (some ⟨bf, 0, none⟩), .pointer (some ⟨bc, oc, none⟩)] w fun e w' => e = gaveUp 6 ∧ Kept 5 B [br, bf] w w' := by
  go_enter Tryd.func61, Tryd.ntmps61
  go_wp2
  go_loopw [6] (fun _ wr => ∃ (r : List Bool) (o : List Nat) (ov' : Value), Fl B br bf bd off cap d most fixed wr r window ov' o ∧ Hid (Fo.PartsTo c window most r o (.error 6)) ∧ Kept 5 B [br, bf] w wr) (fun _ wr => bitsOf' br bf d.length wr)
  case atStart => exact ⟨rest, out, ov, h, hp, Kept.refl _ _ _ _⟩
  case round =>
    obtain ⟨r, o, ov', hf, HP, kk⟩ := hrel
    have hm := hide hf.measure
    rcases HP.out.parted with ⟨e1, he, hres⟩ | ⟨r1, o1, he, hres⟩ | ⟨r1, o1, he, hp2⟩
    · cases hres
      go_wp2_with fail
      refine (part_no bc oc c hc (hC.kept kk) hf hw he).mono ?_
      rintro e w1 ⟨rfl, k2⟩
      exact ⟨rfl, rfl, kk.trans k2⟩
    · cases hres
    · have HP2 := hide hp2
      have hsh := Fo.part_shorter he
      have HE := hide he
      clear hp2 he
      go_wp2_with fail
      refine (part_ok bc oc c hc (hC.kept kk) hf hw HE.out).mono ?_
      rintro e w1 ⟨rfl, ov2, hf2, k2⟩
      have hm2 := hide hf2.measure
      go_wp2
      go_roundw
      case rel => exact ⟨_, _, ov2, hf2, HP2, kk.trans k2⟩
      case measure => rw [hm.out, hm2.out]; exact hsh

set_option maxRecDepth 100000 in
theorem block_fixed_no (b : Bool) (hx : Fix w br bf fixed) {rest : List Bool} (h : Fl B br bf bd off cap d most fixed w (b :: (Fo.numBits 2 1 ++ rest)) window ov out)
    (hw : window ≤ 32768) (hp : Fo.PartsTo Fo.fixedC window most rest out (.error 6)) :
    Calls Tryd.prog 37 #[.pointer (some ⟨bf, 0, none⟩)] w fun e w' => e = gaveUp 6 ∧ Kept 5 B [br, bf] w w' := by
  have HP := hide hp
  clear hp
  cases b
  all_goals
    go_enter Tryd.func37, Tryd.ntmps37
    go_wp2_with fail
    refine (bit_ok h).mono ?_
    rintro e w1 ⟨rfl, hf1, k1⟩
    simp only [Bool.toNat_false, Bool.toNat_true]
    go_wp2_with fail
    refine (bitsNum_ok 2 1 (by omega) (by omega) hf1).mono ?_
    rintro e w2 ⟨rfl, hf2, k2⟩
    go_wp2_with fail
    refine (coded_no bf 4 Fo.fixedC fixedOk (hx.codes.kept (k1.trans k2)) hf2 hw HP.out).mono ?_
    rintro e w3 ⟨rfl, k3⟩
    exact ⟨rfl, rfl, (k1.trans k2).trans k3⟩

/-- What the last region of stored reads. -/
def Sst (bf : Nat) (ptr : Value) (_L : Array Bool) (W : World) : Prop := W.cell? ⟨bf, 0, none⟩ = some ptr

set_option maxRecDepth 100000 in
set_option maxHeartbeats 1000000 in
theorem stored_no (D : List Nat) (hD0 : 0 < D.length) (hD1 : D.length ≤ 65535) (hD : ∀ i, i < D.length → nth D i < 256) {rest rest' : List Bool} (h : Fl B br bf bd off cap d most fixed w rest window ov out)
    (hr : rest.drop (rest.length % 8) = Fo.numBits 16 D.length ++ (Fo.numBits 16 (65535 - D.length) ++ (Fo.bitsOf D ++ rest'))) (h8 : rest'.length % 8 = 0) (ho : most < out.length + D.length) :
    Calls Tryd.prog 60 #[.pointer (some ⟨bf, 0, none⟩)] w fun e w' => e = gaveUp 6 ∧ Kept 5 B [br, bf] w w' := by
  have HR := hide hr
  have H8 := hide h8
  clear hr h8
  have tok : True := trivial
  go_enter Tryd.func60, Tryd.ntmps60
  go_wp2_with fail
  refine (align_ok h).mono ?_
  rintro e w1 ⟨rfl, ⟨p1, held1, hb1, hq1⟩, k1⟩
  rw [HR.out] at hq1
  have hf1 : Fl B br bf bd off cap d most fixed w1 (Fo.numBits 16 D.length ++ (Fo.numBits 16 (65535 - D.length) ++ (Fo.bitsOf D ++ rest'))) window ov out := ⟨p1, held1, 0, hb1, by omega, by rw [← hq1]; simp [bitsLeft, Fo.numBits]⟩
  clear hb1 hq1 h
  go_wp2_with fail
  go_region_with (first | (go_at_call 59; have _t := tok; refine (bitsNum_ok 16 D.length (by omega) (by omega) hf1.drew).mono ?_; rintro e w2 ⟨rfl, hf2, k2⟩; clear tok) | (go_at_call 59; refine (bitsNum_ok 16 (65535 - D.length) (by omega) (by omega) hf2).mono ?_; rintro e w3 ⟨rfl, hf3, k3⟩))
  have kk := (k1.drew.trans k2).trans k3
  clear k1 k2 k3 hf1 hf2
  have e1 : ((65535 - D.length : Nat) : Int) = 65535 - (D.length : Int) := by omega
  rw [e1]
  go_wp2_with fail
  refine (must_yes _).mono ?_
  rintro e w' ⟨rfl, rfl⟩
  obtain ⟨p, held, hb, hq⟩ := hf3.whole (by rw [List.length_append, Fo.bitsOf_length]; have := H8.out; omega)
  obtain ⟨q1, q2, q3⟩ := hb.bytes D hD rest' hq
  have Q2 := hide q2
  have Q3 := hide q3
  clear q2 q3 hq hf3
  have c0 := hb.c0
  go_wp2_with fail
  refine wp_region_T (Sst bf (.pointer (some ⟨br, 0, none⟩))) (by kernel_rfl) ?_
  intro hD
  have hS : Sst bf (.pointer (some ⟨br, 0, none⟩)) (Array.replicate 13 false) w'.drew := c0
  refine wpAnyT_take (i := 0) (v := ?_) rfl (by kernel_rfl) (by kernel_rfl) (by kernel_rfl) (fun _ _ _ h => h) (fun _ _ h => h) (fun _ _ h => h) hD (Or.inl ⟨by rfl, ?_⟩) hS ?_
  rotate_left
  · intro W hW; obtain ⟨_, _, _, f0⟩ := hW; unfold Sst at f0; go_simp; try (with_reducible rfl)
  clear hD hS; intro hD hS; (try simp only [Act.put, List.setIfInBounds_toArray, List.set_cons_zero, List.set_cons_succ])
  refine wpAnyT_take (i := 1) (v := ?_) rfl (by kernel_rfl) (by kernel_rfl) (by kernel_rfl) (fun _ _ _ h => h) (fun _ _ h => h) (fun _ _ h => h) hD (Or.inl ⟨by rfl, ?_⟩) hS ?_
  rotate_left
  · intro W hW; obtain ⟨_, _, _, f0⟩ := hW; unfold Sst at f0; go_simp; try (with_reducible rfl)
  clear hD hS; intro hD hS; (try simp only [Act.put, List.setIfInBounds_toArray, List.set_cons_zero, List.set_cons_succ])
  refine wpAnyT_take (i := 2) (v := ?_) rfl (by kernel_rfl) (by kernel_rfl) (by kernel_rfl) (fun _ _ _ h => h) (fun _ _ h => h) (fun _ _ h => h) hD (Or.inl ⟨by rfl, ?_⟩) hS ?_
  rotate_left
  · intro W hW; obtain ⟨_, _, _, f0⟩ := hW; unfold Sst at f0; go_simp; try (with_reducible rfl)
  clear hD hS; intro hD hS; (try simp only [Act.put, List.setIfInBounds_toArray, List.set_cons_zero, List.set_cons_succ])
  refine wpAnyT_take (i := 3) (v := ?_) rfl (by kernel_rfl) (by kernel_rfl) (by kernel_rfl) (fun _ _ _ h => h) (fun _ _ h => h) (fun _ _ h => h) hD (Or.inl ⟨by rfl, ?_⟩) hS ?_
  rotate_left
  · intro W hW; obtain ⟨_, _, _, f0⟩ := hW; unfold Sst at f0; go_simp; try (with_reducible rfl)
  clear hD hS; intro hD hS; (try simp only [Act.put, List.setIfInBounds_toArray, List.set_cons_zero, List.set_cons_succ])
  refine wpAnyT_take (i := 4) (v := ?_) rfl (by kernel_rfl) (by kernel_rfl) (by kernel_rfl) (fun _ _ _ h => h) (fun _ _ h => h) (fun _ _ h => h) hD (Or.inl ⟨by rfl, ?_⟩) hS ?_
  rotate_left
  · intro W hW; obtain ⟨_, _, _, f0⟩ := hW; unfold Sst at f0; go_simp; try (with_reducible rfl)
  clear hD hS; intro hD hS; (try simp only [Act.put, List.setIfInBounds_toArray, List.set_cons_zero, List.set_cons_succ])
  refine wpAnyT_take (i := 5) (v := ?_) rfl (by kernel_rfl) (by kernel_rfl) (by kernel_rfl) (fun _ _ _ h => h) (fun _ _ h => h) (fun _ _ h => h) hD (Or.inl ⟨by rfl, ?_⟩) hS ?_
  rotate_left
  · intro W hW; obtain ⟨_, _, _, f0⟩ := hW; unfold Sst at f0; go_simp; try (with_reducible rfl)
  clear hD hS; intro hD hS; (try simp only [Act.put, List.setIfInBounds_toArray, List.set_cons_zero, List.set_cons_succ])
  refine wpAnyT_take (i := 6) (v := ?_) rfl (by kernel_rfl) (by kernel_rfl) (by kernel_rfl) (fun _ _ _ h => h) (fun _ _ h => h) (fun _ _ h => h) hD (Or.inl ⟨by rfl, ?_⟩) hS ?_
  rotate_left
  · intro W hW; obtain ⟨_, _, _, f0⟩ := hW; unfold Sst at f0; go_simp; try (with_reducible rfl)
  clear hD hS; intro hD hS; (try simp only [Act.put, List.setIfInBounds_toArray, List.set_cons_zero, List.set_cons_succ])
  refine wpAnyT_take (i := 7) (v := ?_) rfl (by kernel_rfl) (by kernel_rfl) (by kernel_rfl) (fun _ _ _ h => h) (fun _ _ h => h) (fun _ _ h => h) hD (Or.inl ⟨by rfl, ?_⟩) hS ?_
  rotate_left
  · intro W hW; obtain ⟨_, _, _, f0⟩ := hW; unfold Sst at f0; go_simp; try (with_reducible rfl)
  clear hD hS; intro hD hS; (try simp only [Act.put, List.setIfInBounds_toArray, List.set_cons_zero, List.set_cons_succ])
  refine wpAnyT_take (i := 8) (v := ?_) rfl (by kernel_rfl) (by kernel_rfl) (by kernel_rfl) (fun _ _ _ h => h) (fun _ _ h => h) (fun _ _ h => h) hD (Or.inl ⟨by rfl, ?_⟩) hS ?_
  rotate_left
  · intro W hW; obtain ⟨_, _, _, f0⟩ := hW; unfold Sst at f0; go_simp; try (with_reducible rfl)
  clear hD hS; intro hD hS; (try simp only [Act.put, List.setIfInBounds_toArray, List.set_cons_zero, List.set_cons_succ])
  refine wpAnyT_take (i := 9) (v := ?_) rfl (by kernel_rfl) (by kernel_rfl) (by kernel_rfl) (fun _ _ _ h => h) (fun _ _ h => h) (fun _ _ h => h) hD (Or.inl ⟨by rfl, ?_⟩) hS ?_
  rotate_left
  · intro W hW; obtain ⟨_, _, _, f0⟩ := hW; unfold Sst at f0; go_simp; try (with_reducible rfl)
  clear hD hS; intro hD hS; (try simp only [Act.put, List.setIfInBounds_toArray, List.set_cons_zero, List.set_cons_succ])
  refine wpAnyT_take (i := 10) (v := ?_) rfl (by kernel_rfl) (by kernel_rfl) (by kernel_rfl) (fun _ _ _ h => h) (fun _ _ h => h) (fun _ _ h => h) hD (Or.inl ⟨by rfl, ?_⟩) hS ?_
  rotate_left
  · intro W hW; obtain ⟨_, _, _, f0⟩ := hW; unfold Sst at f0; go_simp; try (with_reducible rfl)
  clear hD hS; intro hD hS; (try simp only [Act.put, List.setIfInBounds_toArray, List.set_cons_zero, List.set_cons_succ])
  refine wpAnyT_one (i := 11) (by kernel_rfl) rfl hD (fun K' hK => ?_)
  go_simp
  refine (take_ok (hb.rd.drewN 1) D.length hD0 q1).mono ?_
  rintro e w4 ⟨rfl, r4, k4⟩
  refine hK.out _ _ ((hb.rdKept r4 (((Kept.refl _ _ _ _).drewN 1).trans k4)).c0) (fun hD2 hS2 => ?_)
  clear hD hS hK K'
  have hD := hD2
  have hS := hS2
  clear hD2 hS2
  (try simp only [Act.put, List.setIfInBounds_toArray, List.set_cons_zero, List.set_cons_succ])
  refine wpAnyT_one (i := 12) (by kernel_rfl) rfl hD (fun K' hK => ?_)
  go_simp
  refine (put_no r4 D.length (some ⟨bd, off + p, none⟩) (cap - p) (by omega) ho).mono ?_
  rintro e w5 ⟨rfl, q, rfl⟩
  exact ⟨rfl, rfl, (kk.drewN 1).trans ((k4.drewN q).mono (by simp))⟩

set_option maxRecDepth 100000 in
theorem block_stored_no (b : Bool) (D : List Nat) (hD0 : 0 < D.length) (hD1 : D.length ≤ 65535) (hD : ∀ i, i < D.length → nth D i < 256) {rest rest' : List Bool} (h : Fl B br bf bd off cap d most fixed w (b :: (Fo.numBits 2 0 ++ rest)) window ov out)
    (hr : rest.drop (rest.length % 8) = Fo.numBits 16 D.length ++ (Fo.numBits 16 (65535 - D.length) ++ (Fo.bitsOf D ++ rest'))) (h8 : rest'.length % 8 = 0) (ho : most < out.length + D.length) :
    Calls Tryd.prog 37 #[.pointer (some ⟨bf, 0, none⟩)] w fun e w' => e = gaveUp 6 ∧ Kept 5 B [br, bf] w w' := by
  have HR := hide hr
  have H8 := hide h8
  clear hr h8
  cases b
  all_goals
    go_enter Tryd.func37, Tryd.ntmps37
    go_wp2_with fail
    refine (bit_ok h).mono ?_
    rintro e w1 ⟨rfl, hf1, k1⟩
    simp only [Bool.toNat_false, Bool.toNat_true]
    go_wp2_with fail
    refine (bitsNum_ok 2 0 (by omega) (by omega) hf1).mono ?_
    rintro e w2 ⟨rfl, hf2, k2⟩
    go_wp2_with fail
    refine (stored_no D hD0 hD1 hD hf2 HR.out H8.out ho).mono ?_
    rintro e w3 ⟨rfl, k3⟩
    exact ⟨rfl, rfl, (k1.trans k2).trans k3⟩
end Go.Proofs.YtgkljcmjnphpeaaDoor
/- decodeFlate: what is right, too little room, what lacks its end. -/
namespace Go.Proofs.YtgkljcmjnphpeaaDoor
open Go.RowKit
variable {B br bf bd off cap : Nat} {d : List Nat} {most : Nat} {fixed : List Value} {w : World} {p held left window : Nat} {ov : Value} {out : List Nat}

theorem block_no {rr : List Bool} (hf : Fl B br bf bd off cap d most fixed w rr 32768 ov []) (hx : Fix w br bf fixed) (hb : BlockNo most rr) :
    Calls Tryd.prog 37 #[.pointer (some ⟨bf, 0, none⟩)] w fun e w' => e = gaveUp 6 ∧ Kept 5 B [br, bf] w w' := by
  rcases hb with ⟨b, r, rfl, hp⟩ | ⟨b, r, r', D, rfl, h0, h1, h2, h3, h4, h5⟩
  · exact block_fixed_no b hx hf (by omega) hp
  · exact block_stored_no b D h0 h1 h2 hf h3 h4 (by simpa using h5)

theorem eq_yes (a0 a1 a2 a3 : Nat) (data t : List Nat) (ht4 : t.length = 4) (htb : ∀ i, i < 4 → nth t i < 256) (h0 : a0 = nth t 0) (h1 : a1 = nth t 1) (h2 : a2 = nth t 2) (h3 : a3 = nth t 3) (hne : t = sum4 data) (W : World) :
    (Op.equalIn 10000 43 (.agg #[.int .u8 (a0 : Int), .int .u8 (a1 : Int), .int .u8 (a2 : Int), .int .u8 (a3 : Int)]) (.agg #[.int .u8 (((sumAB data).2 : Int) / 256), .int .u8 (((sumAB data).2 : Int) % 256), .int .u8 (((sumAB data).1 : Int) / 256), .int .u8 (((sumAB data).1 : Int) % 256)])).run Tryd.prog W = .ok true W := by
  have hs := sumAB_lt data
  have h := run_eq4 a0 a1 a2 a3 ((sumAB data).2 / 256) ((sumAB data).2 % 256) ((sumAB data).1 / 256) ((sumAB data).1 % 256) (by rw [h0]; exact htb 0 (by omega)) (by rw [h1]; exact htb 1 (by omega)) (by rw [h2]; exact htb 2 (by omega)) (by rw [h3]; exact htb 3 (by omega)) (by omega) (by omega) (by omega) (by omega) W
  have e : decide ([a0, a1, a2, a3] = [(sumAB data).2 / 256, (sumAB data).2 % 256, (sumAB data).1 / 256, (sumAB data).1 % 256]) = true := by
    rw [decide_eq_true_iff, h0, h1, h2, h3, hne]
    rfl
  rw [e] at h
  simpa using h

/-- What the test of the sum reads ahead of the sum itself. -/
def Sfc (bf br : Nat) (ptr sl : Value) (_L : Array Bool) (W : World) : Prop := W.cell? ⟨bf, 0, none⟩ = some ptr ∧ W.cell? ⟨br, 2, none⟩ = some sl

set_option maxRecDepth 100000 in
set_option maxHeartbeats 2000000 in
/-- Where all is right. -/
theorem decodeFlate_ok (h : Rd B br bd off cap d most w 0 ov []) (hl : 2 ≤ d.length) (d0 : nth d 0 = 120) (d1 : nth d 1 = 156) {r : List Bool} {data : List Nat}
    (hbk : Blocks 32768 most (Fo.bitsOf (d.drop 2)) [] r data) (t : List Nat) (ht4 : t.length = 4) (htb : ∀ i, i < 4 → nth t i < 256) (hr : r.drop (r.length % 8) = Fo.bitsOf t) (hne : t = sum4 data) (hdb : ∀ i, i < data.length → nth data i < 256) :
    Calls Tryd.prog 22 #[.pointer (some ⟨br, 0, none⟩)] w fun e w' => e = .returned (.tuple #[]) ∧ ∃ ov', Rd B br bd off cap d most w' d.length ov' data ∧ Kept 5 B [br] w w' := by
  have HBK := hide hbk
  have HR := hide hr
  have HNE := hide hne
  clear hbk hr hne
  go_enter Tryd.func22, Tryd.ntmps22
  go_wp2_with fail
  refine fixedCodes_ok.mono ?_
  rintro e w1 ⟨g1, g2, rfl, i1, i2, b1, q1, q2⟩
  have hbuild := hide (fun W => list38 (fixedCells g1 g2) W br (fixedCells_length g1 g2))
  have tokb : True := trivial
  generalize hF : fixedCells g1 g2 = F at *
  have HF := hide hF
  clear hF
  go_wp2_with (have _t := tokb; refine wpList_build2 (by rfl) 57 0 2 (.tmp 4) (.tmp 5) (by rfl) _ _ _ (by rfl) (by rfl) hbuild.out ?_; clear tokb)
  have r1 := h.ofBelow b1
  have hbr := lt_of_block h.blk
  have hb2 := Bi.start (F := F) r1
  have hx2 := Fix.start (br := br) i1 i2 (.cells (Value.pointer (some ⟨br, 0, none⟩) :: .int .u8 0 :: .int .i64 0 :: .int .i64 0 :: F).toArray 57 (0, 0)) (by omega) (by omega)
  rw [HF.out] at hx2
  have kk0 : Below w.heap.size w (w1.alloc (.cells (Value.pointer (some ⟨br, 0, none⟩) :: .int .u8 0 :: .int .i64 0 :: .int .i64 0 :: F).toArray 57 (0, 0))) := b1.alloc b1.size _
  clear i1 i2 r1 hbuild HF q1 q2
  have hbs := b1.size
  clear b1
  refine (head_ok hb2 hl d0 d1).mono ?_
  rintro e w2 ⟨rfl, hb3, kh⟩
  have hx3 := hx2.kept kh
  have hf3 : Fl B br w1.heap.size bd off cap d most F w2 (Fo.bitsOf (d.drop 2)) 32768 ov [] := ⟨2, 0, 0, hb3, by omega, by simp [bitsLeft, Fo.numBits]⟩
  clear hb2 hx2 hb3 d0 d1
  go_wp2_with fail
  go_loopw [11] (fun _ wr => ∃ (rr : List Bool) (o : List Nat) (ov' : Value), Fl B br w1.heap.size bd off cap d most F wr rr 32768 ov' o ∧ Fix wr br w1.heap.size F ∧ Hid (Blocks 32768 most rr o r data) ∧ Kept 5 B [br, w1.heap.size] w2 wr) (fun _ wr => bitsOf' br w1.heap.size d.length wr)
  case atStart => exact ⟨_, _, ov, hf3, hx3, HBK, Kept.refl _ _ _ _⟩
  clear hf3 hx3 HBK
  case round =>
    obtain ⟨rr, o, ov', hf, hx, HB2, kk⟩ := hrel
    have hm := hide hf.measure
    have hcase := block_case hf hx HB2.out
    clear HB2
    rcases hcase with hlast | ⟨r2, o2, hmore, hsh, hb5⟩
    · have HL := hide hlast
      clear hlast hm
      go_wp2_with fail
      refine HL.out.mono ?_
      rintro e w3 ⟨rfl, ov3, hf3, k3⟩
      have k23 := kk.trans k3
      clear kk k3 HL hf hx
      go_wp2_with fail
      refine (align_ok hf3).mono ?_
      rintro e w4 ⟨rfl, ⟨p4, held4, hb4, hq4⟩, k4⟩
      rw [HR.out] at hq4
      have k24 := k23.trans k4
      clear k23 k4 hf3
      obtain ⟨z1, z2, z3⟩ := hb4.bytes t (by rw [ht4]; exact htb) [] (by rw [hq4]; simp)
      have c0 := hb4.c0
      have c2 := hb4.rd.c2
      obtain ⟨ao, oc, hov, _⟩ := hb4.rd.datOut hdb
      subst hov
      have hl4 := hb4.rd.lm
      have hl5 := hb4.rd.lo
      rw [ht4] at z1 z2
      have y0 := z2 0 (by omega)
      have y1 := z2 1 (by omega)
      have y2 := z2 2 (by omega)
      have y3 := z2 3 (by omega)
      have Y := hide (And.intro y0 (And.intro y1 (And.intro y2 y3)))
      have hend : p4 + 4 = d.length := by
        have := congrArg List.length z3
        rw [Fo.bitsOf_length, List.length_drop, ht4] at this
        simp at this; omega
      clear z2 z3 y0 y1 y2 y3 hq4
      have hl6 : data.length ≤ 1000000000 := by omega
      have haa := run_arrayAt4 bd (off + p4) (cap - p4)
      have heq := eq_yes (nth d p4) (nth d (p4 + 1)) (nth d (p4 + 2)) (nth d (p4 + 3)) data t ht4 htb (by have := Y.out.1; simpa using this) Y.out.2.1 Y.out.2.2.1 Y.out.2.2.2 HNE.out
      go_wp2_with fail
      refine wp_region_T (Sfl w1.heap.size br bd (off + p4) (.pointer (some ⟨br, 0, none⟩)) (.slice ao data.length oc) d p4) (by kernel_rfl) ?_
      intro hD
      have hS : Sfl w1.heap.size br bd (off + p4) (.pointer (some ⟨br, 0, none⟩)) (.slice ao data.length oc) d p4 (Array.replicate 19 false) w4.drew := sfl (hb4.drewN 1) z1
      refine wpAnyT_take (i := 0) (v := ?_) rfl (by kernel_rfl) (by kernel_rfl) (by kernel_rfl) (fun _ _ _ h => h) (fun _ _ h => h) (fun _ _ h => h) hD (Or.inl ⟨by rfl, ?_⟩) hS ?_
      rotate_left
      · intro W hW; obtain ⟨_, _, _, f0, f1, f2, f3, f4, f5⟩ := hW; go_simp; try (with_reducible rfl)
      clear hD hS; intro hD hS; (try simp only [Act.put, List.setIfInBounds_toArray, List.set_cons_zero, List.set_cons_succ])
      refine wpAnyT_take (i := 1) (v := ?_) rfl (by kernel_rfl) (by kernel_rfl) (by kernel_rfl) (fun _ _ _ h => h) (fun _ _ h => h) (fun _ _ h => h) hD (Or.inl ⟨by rfl, ?_⟩) hS ?_
      rotate_left
      · intro W hW; obtain ⟨_, _, _, f0, f1, f2, f3, f4, f5⟩ := hW; go_simp; try (with_reducible rfl)
      clear hD hS; intro hD hS; (try simp only [Act.put, List.setIfInBounds_toArray, List.set_cons_zero, List.set_cons_succ])
      refine wpAnyT_take (i := 2) (v := ?_) rfl (by kernel_rfl) (by kernel_rfl) (by kernel_rfl) (fun _ _ _ h => h) (fun _ _ h => h) (fun _ _ h => h) hD (Or.inl ⟨by rfl, ?_⟩) hS ?_
      rotate_left
      · intro W hW; obtain ⟨_, _, _, f0, f1, f2, f3, f4, f5⟩ := hW; go_simp; try (with_reducible rfl)
      clear hD hS; intro hD hS; (try simp only [Act.put, List.setIfInBounds_toArray, List.set_cons_zero, List.set_cons_succ])
      refine wpAnyT_take (i := 3) (v := ?_) rfl (by kernel_rfl) (by kernel_rfl) (by kernel_rfl) (fun _ _ _ h => h) (fun _ _ h => h) (fun _ _ h => h) hD (Or.inl ⟨by rfl, ?_⟩) hS ?_
      rotate_left
      · intro W hW; obtain ⟨_, _, _, f0, f1, f2, f3, f4, f5⟩ := hW; go_simp; try (with_reducible rfl)
      clear hD hS; intro hD hS; (try simp only [Act.put, List.setIfInBounds_toArray, List.set_cons_zero, List.set_cons_succ])
      refine wpAnyT_take (i := 4) (v := ?_) rfl (by kernel_rfl) (by kernel_rfl) (by kernel_rfl) (fun _ _ _ h => h) (fun _ _ h => h) (fun _ _ h => h) hD (Or.inl ⟨by rfl, ?_⟩) hS ?_
      rotate_left
      · intro W hW; obtain ⟨_, _, _, f0, f1, f2, f3, f4, f5⟩ := hW; go_simp; try (with_reducible rfl)
      clear hD hS; intro hD hS; (try simp only [Act.put, List.setIfInBounds_toArray, List.set_cons_zero, List.set_cons_succ])
      refine wpAnyT_take (i := 8) (v := ?_) rfl (by kernel_rfl) (by kernel_rfl) (by kernel_rfl) (fun _ _ _ h => h) (fun _ _ h => h) (fun _ _ h => h) hD (Or.inl ⟨by rfl, ?_⟩) hS ?_
      rotate_left
      · intro W hW; obtain ⟨_, _, _, f0, f1, f2, f3, f4, f5⟩ := hW; go_simp; try (with_reducible rfl)
      clear hD hS; intro hD hS; (try simp only [Act.put, List.setIfInBounds_toArray, List.set_cons_zero, List.set_cons_succ])
      refine wpAnyT_take (i := 9) (v := ?_) rfl (by kernel_rfl) (by kernel_rfl) (by kernel_rfl) (fun _ _ _ h => h) (fun _ _ h => h) (fun _ _ h => h) hD (Or.inl ⟨by rfl, ?_⟩) hS ?_
      rotate_left
      · intro W hW; obtain ⟨_, _, _, f0, f1, f2, f3, f4, f5⟩ := hW; go_simp; try (with_reducible rfl)
      clear hD hS; intro hD hS; (try simp only [Act.put, List.setIfInBounds_toArray, List.set_cons_zero, List.set_cons_succ])
      refine wpAnyT_take (i := 10) (v := ?_) rfl (by kernel_rfl) (by kernel_rfl) (by kernel_rfl) (fun _ _ _ h => h) (fun _ _ h => h) (fun _ _ h => h) hD (Or.inl ⟨by rfl, ?_⟩) hS ?_
      rotate_left
      · intro W hW; obtain ⟨_, _, _, f0, f1, f2, f3, f4, f5⟩ := hW; go_simp; try (with_reducible rfl)
      clear hD hS; intro hD hS; (try simp only [Act.put, List.setIfInBounds_toArray, List.set_cons_zero, List.set_cons_succ])
      refine wpAnyT_take (i := 11) (v := ?_) rfl (by kernel_rfl) (by kernel_rfl) (by kernel_rfl) (fun _ _ _ h => h) (fun _ _ h => h) (fun _ _ h => h) hD (Or.inl ⟨by rfl, ?_⟩) hS ?_
      rotate_left
      · intro W hW; obtain ⟨_, _, _, f0, f1, f2, f3, f4, f5⟩ := hW; go_simp; try (with_reducible rfl)
      clear hD hS; intro hD hS; (try simp only [Act.put, List.setIfInBounds_toArray, List.set_cons_zero, List.set_cons_succ])
      refine wpAnyT_take (i := 12) (v := ?_) rfl (by kernel_rfl) (by kernel_rfl) (by kernel_rfl) (fun _ _ _ h => h) (fun _ _ h => h) (fun _ _ h => h) hD (Or.inl ⟨by rfl, ?_⟩) hS ?_
      rotate_left
      · intro W hW; obtain ⟨_, _, _, f0, f1, f2, f3, f4, f5⟩ := hW; go_simp; try (with_reducible rfl)
      clear hD hS; intro hD hS; (try simp only [Act.put, List.setIfInBounds_toArray, List.set_cons_zero, List.set_cons_succ])
      refine wpAnyT_take (i := 13) (v := ?_) rfl (by kernel_rfl) (by kernel_rfl) (by kernel_rfl) (fun _ _ _ h => h) (fun _ _ h => h) (fun _ _ h => h) hD (Or.inl ⟨by rfl, ?_⟩) hS ?_
      rotate_left
      · intro W hW; obtain ⟨_, _, _, f0, f1, f2, f3, f4, f5⟩ := hW; go_simp; try (with_reducible rfl)
      clear hD hS; intro hD hS; (try simp only [Act.put, List.setIfInBounds_toArray, List.set_cons_zero, List.set_cons_succ])
      refine wpAnyT_take (i := 14) (v := ?_) rfl (by kernel_rfl) (by kernel_rfl) (by kernel_rfl) (fun _ _ _ h => h) (fun _ _ h => h) (fun _ _ h => h) hD (Or.inl ⟨by rfl, ?_⟩) hS ?_
      rotate_left
      · intro W hW; obtain ⟨_, _, _, f0, f1, f2, f3, f4, f5⟩ := hW; go_simp; try (with_reducible rfl)
      clear hD hS; intro hD hS; (try simp only [Act.put, List.setIfInBounds_toArray, List.set_cons_zero, List.set_cons_succ])
      refine wpAnyT_take (i := 15) (v := ?_) rfl (by kernel_rfl) (by kernel_rfl) (by kernel_rfl) (fun _ _ _ h => h) (fun _ _ h => h) (fun _ _ h => h) hD (Or.inl ⟨by rfl, ?_⟩) hS ?_
      rotate_left
      · intro W hW; obtain ⟨_, _, _, f0, f1, f2, f3, f4, f5⟩ := hW; go_simp; try (with_reducible rfl)
      clear hD hS; intro hD hS; (try simp only [Act.put, List.setIfInBounds_toArray, List.set_cons_zero, List.set_cons_succ])
      refine wpAnyT_one (i := 5) (by kernel_rfl) rfl hD (fun K' hK => ?_)
      go_simp
      refine (take_ok (hb4.rd.drewN 1) 4 (by omega) z1).mono ?_
      rintro e w5 ⟨rfl, r5, k5⟩
      have h5 := hb4.rdKept r5 (((Kept.refl _ _ _ _).drewN 1).trans k5)
      refine hK.out _ _ (sfl h5 z1) (fun hD2 hS2 => ?_)
      clear hD hS hK K'
      have hD := hD2
      have hS := hS2
      clear hD2 hS2
      (try simp only [Act.put, List.setIfInBounds_toArray, List.set_cons_zero, List.set_cons_succ])
      refine wpAnyT_take (i := 6) (v := ?_) rfl (by kernel_rfl) (by kernel_rfl) (by kernel_rfl) (fun _ _ _ h => h) (fun _ _ h => h) (fun _ _ h => h) hD (Or.inl ⟨by rfl, ?_⟩) hS ?_
      rotate_left
      · intro W hW; obtain ⟨_, _, _, f0, f1, f2, f3, f4, f5⟩ := hW; go_simp; try (with_reducible rfl)
      clear hD hS; intro hD hS; (try simp only [Act.put, List.setIfInBounds_toArray, List.set_cons_zero, List.set_cons_succ])
      refine wpAnyT_take (i := 7) (v := ?_) rfl (by kernel_rfl) (by kernel_rfl) (by kernel_rfl) (fun _ _ _ h => h) (fun _ _ h => h) (fun _ _ h => h) hD (Or.inl ⟨by rfl, ?_⟩) hS ?_
      rotate_left
      · intro W hW; obtain ⟨_, _, _, f0, f1, f2, f3, f4, f5⟩ := hW; go_simp; try (with_reducible rfl)
      clear hD hS; intro hD hS; (try simp only [Act.put, List.setIfInBounds_toArray, List.set_cons_zero, List.set_cons_succ])
      refine wpAnyT_one (i := 16) (by kernel_rfl) rfl hD (fun K' hK => ?_)
      go_simp
      refine (sum_ok (B := w5.heap.size) (w := w5) ao oc data (Nat.le_refl _) (Rd.datOut' r5) hl6 hdb).mono ?_
      rintro e w6 ⟨rfl, o6, rfl⟩
      refine hK.out _ _ (sfl (h5.alloc o6) z1) (fun hD2 hS2 => ?_)
      clear hD hS hK K'
      have hD := hD2
      have hS := hS2
      clear hD2 hS2
      unfold sumVal
      (try simp only [Act.put, List.setIfInBounds_toArray, List.set_cons_zero, List.set_cons_succ])
      refine wpAnyT_take (i := 17) (v := ?_) rfl (by kernel_rfl) (by kernel_rfl) (by kernel_rfl) (fun _ _ _ h => h) (fun _ _ h => h) (fun _ _ h => h) hD (Or.inl ⟨by rfl, ?_⟩) hS ?_
      rotate_left
      · intro W hW; obtain ⟨_, _, _, f0, f1, f2, f3, f4, f5⟩ := hW; go_simp; try (with_reducible rfl)
      clear hD hS; intro hD hS; (try simp only [Act.put, List.setIfInBounds_toArray, List.set_cons_zero, List.set_cons_succ])
      refine wpAnyT_one (i := 18) (by kernel_rfl) rfl hD (fun K' hK => ?_)
      go_simp
      refine (must_yes _).mono ?_
      rintro e w7 ⟨rfl, rfl⟩
      refine hK.out _ _ (sfl (h5.alloc o6) z1) (fun hD2 hS2 => ?_)
      clear hD hS hK K' hD2 hS2
      refine wpAnyT_done (by kernel_rfl) ?_ _
      have h6 := h5.alloc o6
      have g0 := h6.c0
      have r6 := h6.rd
      have HK6 := hide (kept_through kk0 (((kh.trans k24).drewN 1).trans ((k5.mono (by simp)).alloc o6)) hbs)
      rw [hend] at r6
      clear h5 r5 k5 haa heq c0 c2 hb4 kh k24 h h6
      go_wp2_with fail
      refine (end_ok r6).mono ?_
      rintro e w7 ⟨rfl, q, rfl⟩
      go_wp2
      go_end0
      exact ⟨rfl, _, r6.drewN q, HK6.out.drewN q⟩
    · have HM := hide hmore
      have HB5 := hide hb5
      clear hmore hb5
      go_wp2_with fail
      refine HM.out.mono ?_
      rintro e w3 ⟨rfl, ov3, hf3, k3⟩
      have hm2 := hide hf3.measure
      have hx3 := hx.kept k3
      go_wp2
      go_roundw
      case rel => exact ⟨_, _, ov3, hf3, hx3, HB5, kk.trans k3⟩
      case measure => rw [hm.out, hm2.out]; exact hsh
set_option maxRecDepth 100000 in
set_option maxHeartbeats 2000000 in
/-- Where the sum is not there whole. -/
theorem decodeFlate_cut (h : Rd B br bd off cap d most w 0 ov []) (hl : 2 ≤ d.length) (d0 : nth d 0 = 120) (d1 : nth d 1 = 156) {r : List Bool} {data : List Nat}
    (hbk : Blocks 32768 most (Fo.bitsOf (d.drop 2)) [] r data) (t : List Nat) (ht4 : t.length = 3) (hr : r.drop (r.length % 8) = Fo.bitsOf t) (hdb : ∀ i, i < data.length → nth data i < 256) :
    Calls Tryd.prog 22 #[.pointer (some ⟨br, 0, none⟩)] w fun e w' => e = gaveUp 5 ∧ Kept 5 B [br] w w' := by
  have HBK := hide hbk
  have HR := hide hr
  clear hbk hr
  go_enter Tryd.func22, Tryd.ntmps22
  go_wp2_with fail
  refine fixedCodes_ok.mono ?_
  rintro e w1 ⟨g1, g2, rfl, i1, i2, b1, q1, q2⟩
  have hbuild := hide (fun W => list38 (fixedCells g1 g2) W br (fixedCells_length g1 g2))
  have tokb : True := trivial
  generalize hF : fixedCells g1 g2 = F at *
  have HF := hide hF
  clear hF
  go_wp2_with (have _t := tokb; refine wpList_build2 (by rfl) 57 0 2 (.tmp 4) (.tmp 5) (by rfl) _ _ _ (by rfl) (by rfl) hbuild.out ?_; clear tokb)
  have r1 := h.ofBelow b1
  have hbr := lt_of_block h.blk
  have hb2 := Bi.start (F := F) r1
  have hx2 := Fix.start (br := br) i1 i2 (.cells (Value.pointer (some ⟨br, 0, none⟩) :: .int .u8 0 :: .int .i64 0 :: .int .i64 0 :: F).toArray 57 (0, 0)) (by omega) (by omega)
  rw [HF.out] at hx2
  have kk0 : Below w.heap.size w (w1.alloc (.cells (Value.pointer (some ⟨br, 0, none⟩) :: .int .u8 0 :: .int .i64 0 :: .int .i64 0 :: F).toArray 57 (0, 0))) := b1.alloc b1.size _
  clear i1 i2 r1 hbuild HF q1 q2
  have hbs := b1.size
  clear b1
  refine (head_ok hb2 hl d0 d1).mono ?_
  rintro e w2 ⟨rfl, hb3, kh⟩
  have hx3 := hx2.kept kh
  have hf3 : Fl B br w1.heap.size bd off cap d most F w2 (Fo.bitsOf (d.drop 2)) 32768 ov [] := ⟨2, 0, 0, hb3, by omega, by simp [bitsLeft, Fo.numBits]⟩
  clear hb2 hx2 hb3 d0 d1
  go_wp2_with fail
  go_loopw [11] (fun _ wr => ∃ (rr : List Bool) (o : List Nat) (ov' : Value), Fl B br w1.heap.size bd off cap d most F wr rr 32768 ov' o ∧ Fix wr br w1.heap.size F ∧ Hid (Blocks 32768 most rr o r data) ∧ Kept 5 B [br, w1.heap.size] w2 wr) (fun _ wr => bitsOf' br w1.heap.size d.length wr)
  case atStart => exact ⟨_, _, ov, hf3, hx3, HBK, Kept.refl _ _ _ _⟩
  clear hf3 hx3 HBK
  case round =>
    obtain ⟨rr, o, ov', hf, hx, HB2, kk⟩ := hrel
    have hm := hide hf.measure
    have hcase := block_case hf hx HB2.out
    clear HB2
    rcases hcase with hlast | ⟨r2, o2, hmore, hsh, hb5⟩
    · have HL := hide hlast
      clear hlast hm
      go_wp2_with fail
      refine HL.out.mono ?_
      rintro e w3 ⟨rfl, ov3, hf3, k3⟩
      have k23 := kk.trans k3
      clear kk k3 HL hf hx
      go_wp2_with fail
      refine (align_ok hf3).mono ?_
      rintro e w4 ⟨rfl, ⟨p4, held4, hb4, hq4⟩, k4⟩
      rw [HR.out] at hq4
      have k24 := k23.trans k4
      clear k23 k4 hf3
      have hcl : d.length < p4 + 4 := by
        have := congrArg List.length hq4
        rw [Fo.bitsOf_length, Fo.bitsOf_length, List.length_drop, ht4] at this
        omega
      have c0 := hb4.c0
      have c2 := hb4.rd.c2
      obtain ⟨ao, oc, hov, _⟩ := hb4.rd.datOut hdb
      subst hov
      clear hq4
      go_wp2_with fail
      refine wp_region_T (Sfc w1.heap.size br (.pointer (some ⟨br, 0, none⟩)) (.slice ao data.length oc)) (by kernel_rfl) ?_
      intro hD
      have hS : Sfc w1.heap.size br (.pointer (some ⟨br, 0, none⟩)) (.slice ao data.length oc) (Array.replicate 19 false) w4.drew := ⟨(hb4.drewN 1).c0, (hb4.drewN 1).rd.c2⟩
      refine wpAnyT_take (i := 0) (v := ?_) rfl (by kernel_rfl) (by kernel_rfl) (by kernel_rfl) (fun _ _ _ h => h) (fun _ _ h => h) (fun _ _ h => h) hD (Or.inl ⟨by rfl, ?_⟩) hS ?_
      rotate_left
      · intro W hW; obtain ⟨_, _, _, f0, f1⟩ := hW; go_simp; try (with_reducible rfl)
      clear hD hS; intro hD hS; (try simp only [Act.put, List.setIfInBounds_toArray, List.set_cons_zero, List.set_cons_succ])
      refine wpAnyT_take (i := 1) (v := ?_) rfl (by kernel_rfl) (by kernel_rfl) (by kernel_rfl) (fun _ _ _ h => h) (fun _ _ h => h) (fun _ _ h => h) hD (Or.inl ⟨by rfl, ?_⟩) hS ?_
      rotate_left
      · intro W hW; obtain ⟨_, _, _, f0, f1⟩ := hW; go_simp; try (with_reducible rfl)
      clear hD hS; intro hD hS; (try simp only [Act.put, List.setIfInBounds_toArray, List.set_cons_zero, List.set_cons_succ])
      refine wpAnyT_take (i := 2) (v := ?_) rfl (by kernel_rfl) (by kernel_rfl) (by kernel_rfl) (fun _ _ _ h => h) (fun _ _ h => h) (fun _ _ h => h) hD (Or.inl ⟨by rfl, ?_⟩) hS ?_
      rotate_left
      · intro W hW; obtain ⟨_, _, _, f0, f1⟩ := hW; go_simp; try (with_reducible rfl)
      clear hD hS; intro hD hS; (try simp only [Act.put, List.setIfInBounds_toArray, List.set_cons_zero, List.set_cons_succ])
      refine wpAnyT_take (i := 3) (v := ?_) rfl (by kernel_rfl) (by kernel_rfl) (by kernel_rfl) (fun _ _ _ h => h) (fun _ _ h => h) (fun _ _ h => h) hD (Or.inl ⟨by rfl, ?_⟩) hS ?_
      rotate_left
      · intro W hW; obtain ⟨_, _, _, f0, f1⟩ := hW; go_simp; try (with_reducible rfl)
      clear hD hS; intro hD hS; (try simp only [Act.put, List.setIfInBounds_toArray, List.set_cons_zero, List.set_cons_succ])
      refine wpAnyT_take (i := 4) (v := ?_) rfl (by kernel_rfl) (by kernel_rfl) (by kernel_rfl) (fun _ _ _ h => h) (fun _ _ h => h) (fun _ _ h => h) hD (Or.inl ⟨by rfl, ?_⟩) hS ?_
      rotate_left
      · intro W hW; obtain ⟨_, _, _, f0, f1⟩ := hW; go_simp; try (with_reducible rfl)
      clear hD hS; intro hD hS; (try simp only [Act.put, List.setIfInBounds_toArray, List.set_cons_zero, List.set_cons_succ])
      refine wpAnyT_take (i := 8) (v := ?_) rfl (by kernel_rfl) (by kernel_rfl) (by kernel_rfl) (fun _ _ _ h => h) (fun _ _ h => h) (fun _ _ h => h) hD (Or.inl ⟨by rfl, ?_⟩) hS ?_
      rotate_left
      · intro W hW; obtain ⟨_, _, _, f0, f1⟩ := hW; go_simp; try (with_reducible rfl)
      clear hD hS; intro hD hS; (try simp only [Act.put, List.setIfInBounds_toArray, List.set_cons_zero, List.set_cons_succ])
      refine wpAnyT_take (i := 9) (v := ?_) rfl (by kernel_rfl) (by kernel_rfl) (by kernel_rfl) (fun _ _ _ h => h) (fun _ _ h => h) (fun _ _ h => h) hD (Or.inl ⟨by rfl, ?_⟩) hS ?_
      rotate_left
      · intro W hW; obtain ⟨_, _, _, f0, f1⟩ := hW; go_simp; try (with_reducible rfl)
      clear hD hS; intro hD hS; (try simp only [Act.put, List.setIfInBounds_toArray, List.set_cons_zero, List.set_cons_succ])
      refine wpAnyT_take (i := 10) (v := ?_) rfl (by kernel_rfl) (by kernel_rfl) (by kernel_rfl) (fun _ _ _ h => h) (fun _ _ h => h) (fun _ _ h => h) hD (Or.inl ⟨by rfl, ?_⟩) hS ?_
      rotate_left
      · intro W hW; obtain ⟨_, _, _, f0, f1⟩ := hW; go_simp; try (with_reducible rfl)
      clear hD hS; intro hD hS; (try simp only [Act.put, List.setIfInBounds_toArray, List.set_cons_zero, List.set_cons_succ])
      refine wpAnyT_take (i := 11) (v := ?_) rfl (by kernel_rfl) (by kernel_rfl) (by kernel_rfl) (fun _ _ _ h => h) (fun _ _ h => h) (fun _ _ h => h) hD (Or.inl ⟨by rfl, ?_⟩) hS ?_
      rotate_left
      · intro W hW; obtain ⟨_, _, _, f0, f1⟩ := hW; go_simp; try (with_reducible rfl)
      clear hD hS; intro hD hS; (try simp only [Act.put, List.setIfInBounds_toArray, List.set_cons_zero, List.set_cons_succ])
      refine wpAnyT_take (i := 12) (v := ?_) rfl (by kernel_rfl) (by kernel_rfl) (by kernel_rfl) (fun _ _ _ h => h) (fun _ _ h => h) (fun _ _ h => h) hD (Or.inl ⟨by rfl, ?_⟩) hS ?_
      rotate_left
      · intro W hW; obtain ⟨_, _, _, f0, f1⟩ := hW; go_simp; try (with_reducible rfl)
      clear hD hS; intro hD hS; (try simp only [Act.put, List.setIfInBounds_toArray, List.set_cons_zero, List.set_cons_succ])
      refine wpAnyT_take (i := 13) (v := ?_) rfl (by kernel_rfl) (by kernel_rfl) (by kernel_rfl) (fun _ _ _ h => h) (fun _ _ h => h) (fun _ _ h => h) hD (Or.inl ⟨by rfl, ?_⟩) hS ?_
      rotate_left
      · intro W hW; obtain ⟨_, _, _, f0, f1⟩ := hW; go_simp; try (with_reducible rfl)
      clear hD hS; intro hD hS; (try simp only [Act.put, List.setIfInBounds_toArray, List.set_cons_zero, List.set_cons_succ])
      refine wpAnyT_take (i := 14) (v := ?_) rfl (by kernel_rfl) (by kernel_rfl) (by kernel_rfl) (fun _ _ _ h => h) (fun _ _ h => h) (fun _ _ h => h) hD (Or.inl ⟨by rfl, ?_⟩) hS ?_
      rotate_left
      · intro W hW; obtain ⟨_, _, _, f0, f1⟩ := hW; go_simp; try (with_reducible rfl)
      clear hD hS; intro hD hS; (try simp only [Act.put, List.setIfInBounds_toArray, List.set_cons_zero, List.set_cons_succ])
      refine wpAnyT_take (i := 15) (v := ?_) rfl (by kernel_rfl) (by kernel_rfl) (by kernel_rfl) (fun _ _ _ h => h) (fun _ _ h => h) (fun _ _ h => h) hD (Or.inl ⟨by rfl, ?_⟩) hS ?_
      rotate_left
      · intro W hW; obtain ⟨_, _, _, f0, f1⟩ := hW; go_simp; try (with_reducible rfl)
      clear hD hS; intro hD hS; (try simp only [Act.put, List.setIfInBounds_toArray, List.set_cons_zero, List.set_cons_succ])
      refine wpAnyT_one (i := 5) (by kernel_rfl) rfl hD (fun K' hK => ?_)
      go_simp
      refine (take_no (hb4.rd.drewN 1) 4 (by omega) hcl).mono ?_
      rintro e w5 ⟨rfl, q, rfl⟩
      exact ⟨rfl, rfl, kept_through kk0 (((kh.trans k24).drewN 1).drewN q) hbs⟩
    · have HM := hide hmore
      have HB5 := hide hb5
      clear hmore hb5
      go_wp2_with fail
      refine HM.out.mono ?_
      rintro e w3 ⟨rfl, ov3, hf3, k3⟩
      have hm2 := hide hf3.measure
      have hx3 := hx.kept k3
      go_wp2
      go_roundw
      case rel => exact ⟨_, _, ov3, hf3, hx3, HB5, kk.trans k3⟩
      case measure => rw [hm.out, hm2.out]; exact hsh
set_option maxRecDepth 100000 in
set_option maxHeartbeats 2000000 in
/-- Where more would come out than may. -/
theorem decodeFlate_cap (h : Rd B br bd off cap d most w 0 ov []) (hl : 2 ≤ d.length) (d0 : nth d 0 = 120) (d1 : nth d 1 = 156) (hbk : BlockNo most (Fo.bitsOf (d.drop 2))) :
    Calls Tryd.prog 22 #[.pointer (some ⟨br, 0, none⟩)] w fun e w' => e = gaveUp 6 ∧ Kept 5 B [br] w w' := by
  have HBK := hide hbk
  clear hbk
  go_enter Tryd.func22, Tryd.ntmps22
  go_wp2_with fail
  refine fixedCodes_ok.mono ?_
  rintro e w1 ⟨g1, g2, rfl, i1, i2, b1, q1, q2⟩
  have hbuild := hide (fun W => list38 (fixedCells g1 g2) W br (fixedCells_length g1 g2))
  have tokb : True := trivial
  generalize hF : fixedCells g1 g2 = F at *
  have HF := hide hF
  clear hF
  go_wp2_with (have _t := tokb; refine wpList_build2 (by rfl) 57 0 2 (.tmp 4) (.tmp 5) (by rfl) _ _ _ (by rfl) (by rfl) hbuild.out ?_; clear tokb)
  have r1 := h.ofBelow b1
  have hbr := lt_of_block h.blk
  have hb2 := Bi.start (F := F) r1
  have hx2 := Fix.start (br := br) i1 i2 (.cells (Value.pointer (some ⟨br, 0, none⟩) :: .int .u8 0 :: .int .i64 0 :: .int .i64 0 :: F).toArray 57 (0, 0)) (by omega) (by omega)
  rw [HF.out] at hx2
  have kk0 : Below w.heap.size w (w1.alloc (.cells (Value.pointer (some ⟨br, 0, none⟩) :: .int .u8 0 :: .int .i64 0 :: .int .i64 0 :: F).toArray 57 (0, 0))) := b1.alloc b1.size _
  clear i1 i2 r1 hbuild HF q1 q2
  have hbs := b1.size
  clear b1
  refine (head_ok hb2 hl d0 d1).mono ?_
  rintro e w2 ⟨rfl, hb3, kh⟩
  have hx3 := hx2.kept kh
  have hf3 : Fl B br w1.heap.size bd off cap d most F w2 (Fo.bitsOf (d.drop 2)) 32768 ov [] := ⟨2, 0, 0, hb3, by omega, by simp [bitsLeft, Fo.numBits]⟩
  clear hb2 hx2 hb3 d0 d1
  go_wp2_with fail
  go_loopw [11] (fun _ wr => wr = w2) (fun _ _ => 0)
  case atStart => rfl
  case round =>
    subst hrel
    go_wp2_with fail
    refine (block_no hf3 hx3 HBK.out).mono ?_
    rintro e w3 ⟨rfl, k3⟩
    exact ⟨rfl, rfl, kept_through kk0 (kh.trans k3) hbs⟩
end Go.Proofs.YtgkljcmjnphpeaaDoor
