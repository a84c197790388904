/- Filter 4 read: the ways that give up where the bits are not as they have to be. -/
import Derived.Test.YtgkljcmjnphpeaaGreatDoorK09
import Derived.Test.YtgkljcmjnphpeaaGreatDoorK07
import Derived.Test.YtgkljcmjnphpeaaGreatDoorK00
set_option linter.unusedVariables false
set_option linter.unusedSimpArgs false
namespace Go.Proofs.YtgkljcmjnphpeaaGreatDoor
open Go.RowKit
variable {B br bf bd off cap : Nat} {d : List Nat} {most : Nat} {fixed : List Value} {w : World} {p held left window : Nat} {ov : Value} {out : List Nat}
theorem bit_none (h : Fl B br bf bd off cap d most fixed w [] window ov out) :
    Calls Tryz.prog 220 #[.pointer (some ⟨bf, 0, none⟩)] w fun e w' => e = gaveUp 5 ∧ Kept 5 B [br, bf] w w' := by
  obtain ⟨p, held, left, hb, hl, hr⟩ := h
  obtain rfl : left = 0 := by
    have := congrArg List.length hr
    rw [bitsLeft, List.length_append, Fo.numBits_length] at this
    simp at this; omega
  obtain rfl : p = d.length := by
    have := congrArg List.length hr
    rw [bitsLeft, List.length_append, Fo.bitsOf_length, List.length_drop] at this
    have := hb.rd.lp
    simp at *; omega
  clear hr
  have c0 := hb.c0
  have c2 := hb.c2
  go_enter Tryz.func220, Tryz.ntmps220
  go_wp2_with fail
  refine (next_no hb.rd).mono ?_
  rintro e w1 ⟨rfl, k1⟩
  exact ⟨rfl, rfl, k1.mono (by simp)⟩
theorem bits_none (n : Nat) (hn : n ≤ 16) {rest : List Bool} (hr : rest.length < n) (h : Fl B br bf bd off cap d most fixed w rest window ov out) :
    Calls Tryz.prog 221 #[.pointer (some ⟨bf, 0, none⟩), .int .i64 n] w fun e w' => e = gaveUp 5 ∧ Kept 5 B [br, bf] w w' := by
  go_enter Tryz.func221, Tryz.ntmps221
  go_wp2
  go_loopw [5, 8] (fun v i wr => ∃ k : Nat, k ≤ rest.length ∧ i = .int .i64 k ∧ v = .int .i64 (Fo.val (rest.take k)) ∧ Fl B br bf bd off cap d most fixed wr (rest.drop k) window ov out ∧ Kept 5 B [br, bf] w wr) (fun _ i _ => n - (intOf i).toNat)
  case atStart => exact ⟨0, Nat.zero_le _, rfl, rfl, h, Kept.refl _ _ _ _⟩
  case round =>
    obtain ⟨k, hk, rfl, rfl, hf, kk⟩ := hrel
    have hv := Fo.val_lt (rest.take k)
    rw [List.length_take, Nat.min_eq_left (by omega)] at hv
    have hkn : (k : Int) < n := by omega
    by_cases hlt : k < rest.length
    · have hs := val_snoc (rest.take k) rest[k]
      rw [List.length_take, Nat.min_eq_left (by omega), ← List.take_succ_eq_append_getElem (by omega)] at hs
      have HS := hide hs
      clear hs
      rw [List.drop_eq_getElem_cons (by omega)] at hf
      have ho := hide (or_bit (Fo.val (rest.take k)) k rest[k] hv (by omega))
      generalize hX : Fo.val (rest.take k) = X at *
      generalize hY : rest[k] = Y at *
      clear hX hY
      go_wp2_with fail
      refine (bit_ok hf).mono ?_
      rintro e w1 ⟨rfl, hf1, k1⟩
      go_wp2
      go_roundw
      case rel => exact ⟨k + 1, by omega, by go_num, by rw [ho.out, HS.out], hf1, kk.trans k1⟩
      case measure => simp [intOf]; omega
    · rw [List.drop_eq_nil_of_le (by omega)] at hf
      go_wp2_with fail
      refine (bit_none hf).mono ?_
      rintro e w1 ⟨rfl, k1⟩
      exact ⟨rfl, rfl, kk.trans k1⟩
set_option maxHeartbeats 1000000 in
theorem symbol_none (bc oc : Nat) (cs ss : List Nat) (hsum : psum cs 15 ≤ ss.length) (hss : ss.length ≤ 1000) {rest : List Bool}
    (hC : ∀ w' r, Fl B br bf bd off cap d most fixed w' r window ov out → Kept 5 B [br, bf] w w' → Cd w' bc oc cs ss)
    (hs : Fo.sym cs ss rest = none) (h : Fl B br bf bd off cap d most fixed w rest window ov out) :
    Calls Tryz.prog 313 #[.pointer (some ⟨bf, 0, none⟩), .pointer (some ⟨bc, oc, none⟩)] w fun e w' => e = gaveUp 5 ∧ Kept 5 B [br, bf] w w' := by
  go_enter Tryz.func313, Tryz.ntmps313
  go_wp2
  go_loopw [5, 6, 7, 8] (fun c f pl l wr => ∃ (k code first : Nat) (r : List Bool), k ≤ 15 ∧ l = .int .i64 (k + 1 : Nat) ∧ c = .int .i64 code ∧ f = .int .i64 first ∧ pl = .int .i64 (psum cs k) ∧ first ≤ code ∧ code < 2 ^ k ∧ Hid (Fo.symGo cs ss (15 - k) (k + 1) code first (psum cs k) r = none) ∧ Fl B br bf bd off cap d most fixed wr r window ov out ∧ Kept 5 B [br, bf] w wr) (fun _ _ _ l _ => 16 - (intOf l).toNat)
  case atStart => exact ⟨0, 0, 0, rest, by omega, rfl, rfl, rfl, rfl, by omega, by omega, hs, h, Kept.refl _ _ _ _⟩
  case round =>
    obtain ⟨k, code, first, r, hk, rfl, rfl, rfl, rfl, hfc, hc2, hg, hf, kk⟩ := hrel
    by_cases hlt : k < 15
    · obtain ⟨m, hm⟩ : ∃ m, 15 - k = m + 1 := ⟨14 - k, by omega⟩
      have ht : 2 ^ k ≤ 2 ^ 14 := Nat.pow_le_pow_right (by omega) (by omega)
      cases r with
      | nil =>
        generalize psum cs k = P at *
        go_wp2_with fail
        refine (bit_none hf).mono ?_
        rintro e w1 ⟨rfl, k1⟩
        exact ⟨rfl, rfl, kk.trans k1⟩
      | cons b r =>
        have hp15 := psum_mono cs (k + 1) 15 (by omega)
        have hpk : psum cs (k + 1) = psum cs k + nth cs (k + 1) := rfl
        have hb : b.toNat ≤ 1 := by cases b <;> decide
        have ho := or_low1 code b (by omega)
        have hpw : 2 ^ (k + 1) = 2 * 2 ^ k := by rw [Nat.pow_succ]; omega
        generalize hN : nth cs (k + 1) = N at *
        have HN := hide hN
        clear hN
        generalize hPK : psum cs k = P at *
        generalize hPK1 : psum cs (k + 1) = P1 at *
        have HPK1 := hide hPK1
        clear hPK hPK1
        go_wp2_with fail
        refine (bit_ok hf).mono ?_
        rintro e w1 ⟨rfl, hf1, k1⟩
        obtain ⟨hcs, g, c, hg1, hss1⟩ := hC w1 r hf1 (kk.trans k1)
        have hcc := hcs (k + 1) (by omega)
        rw [HN.out] at hcc
        clear hcs
        have hg2 := hg.out
        rw [hm] at hg2
        simp only [Fo.symGo] at hg2
        rw [show cs.getD (k + 1) 0 = N from HN.out] at hg2
        by_cases hlt2 : 2 * code + b.toNat < 2 * first + N
        · rw [if_pos hlt2] at hg2
          cases hg2
        · rw [if_neg hlt2] at hg2
          have HG : Hid (Fo.symGo cs ss (15 - (k + 1)) (k + 1 + 1) (2 * code + b.toNat) (2 * first + N) P1 r = none) := by
            rw [hpk, show 15 - (k + 1) = m by omega]; exact hg2
          have HP := hide hpk
          have hpn : P + N ≤ 1000 := by omega
          clear hg2 hss1 hg hs hpk
          go_wp2
          go_roundw
          case rel =>
            refine ⟨k + 1, 2 * code + b.toNat, 2 * first + N, r, by omega, by go_num, by go_num, by go_num, ?_, by omega, by omega, ?_, hf1, kk.trans k1⟩
            · rw [HPK1.out]; have := HP.out; subst this; go_num
            · rw [HPK1.out]; exact HG
          case measure => simp [intOf]; omega
    · obtain rfl : k = 15 := by omega
      generalize psum cs 15 = P at *
      go_wp2
      exact ⟨rfl, rfl, kk⟩
/-- What within reads. -/
def Swi (b x1 x2 : Nat) (_L : Array Bool) (W : World) : Prop := W.cell? ⟨b, 0, none⟩ = some (.int .i64 x1) ∧ W.cell? ⟨b, 1, none⟩ = some (.int .i64 x2)
set_option maxRecDepth 100000 in
theorem within_none (x : Nat × Nat) (hx : x.2 ≤ 15) (hx1 : x.1 ≤ 100000) {rest : List Bool} (hr : rest.length < x.2) (h : Fl B br bf bd off cap d most fixed w rest window ov out) :
    Calls Tryz.prog 314 #[.pointer (some ⟨bf, 0, none⟩), spanVal x] w fun e w' => e = gaveUp 5 ∧ Kept 5 B [br, bf] w w' := by
  obtain ⟨x1, x2⟩ := x
  simp only [] at hx hx1 hr
  have HB := hide (bits_none (w := (w.alloc (.cells #[.int .i64 x1, .int .i64 x2] 247)).drew) x2 (by omega) hr (h.alloc _).drew)
  unfold spanVal
  go_enter Tryz.func314, Tryz.ntmps314
  go_wp2_with fail
  refine wp_region_T (Swi w.heap.size x1 x2) (by kernel_rfl) ?_
  intro hD
  have hS : Swi w.heap.size x1 x2 (Array.replicate 10 false) (w.alloc (.cells #[.int .i64 x1, .int .i64 x2] 247)).drew := ⟨by rw [show (w.alloc (.cells #[.int .i64 x1, .int .i64 x2] 247)).drew.cell? ⟨w.heap.size, 0, none⟩ = (w.alloc (.cells #[.int .i64 x1, .int .i64 x2] 247)).cell? ⟨w.heap.size, 0, none⟩ from rfl, cell_blk (blk_new _ _)]; rfl, by rw [show (w.alloc (.cells #[.int .i64 x1, .int .i64 x2] 247)).drew.cell? ⟨w.heap.size, 1, none⟩ = (w.alloc (.cells #[.int .i64 x1, .int .i64 x2] 247)).cell? ⟨w.heap.size, 1, none⟩ from rfl, cell_blk (blk_new _ _)]; rfl⟩
  refine wpAnyT_take (i := 0) (v := ?_) rfl (by kernel_rfl) (by kernel_rfl) (by kernel_rfl) (fun _ _ _ h => h) (fun _ _ h => h) (fun _ _ h => h) hD (Or.inl ⟨by rfl, ?_⟩) hS ?_
  rotate_left
  · intro W hW; obtain ⟨_, _, _, f0, f1⟩ := hW; go_simp; try (with_reducible rfl)
  clear hD hS; intro hD hS; (try simp only [Act.put, List.setIfInBounds_toArray, List.set_cons_zero, List.set_cons_succ])
  refine wpAnyT_take (i := 1) (v := ?_) rfl (by kernel_rfl) (by kernel_rfl) (by kernel_rfl) (fun _ _ _ h => h) (fun _ _ h => h) (fun _ _ h => h) hD (Or.inl ⟨by rfl, ?_⟩) hS ?_
  rotate_left
  · intro W hW; obtain ⟨_, _, _, f0, f1⟩ := hW; go_simp; try (with_reducible rfl)
  clear hD hS; intro hD hS; (try simp only [Act.put, List.setIfInBounds_toArray, List.set_cons_zero, List.set_cons_succ])
  refine wpAnyT_take (i := 2) (v := ?_) rfl (by kernel_rfl) (by kernel_rfl) (by kernel_rfl) (fun _ _ _ h => h) (fun _ _ h => h) (fun _ _ h => h) hD (Or.inl ⟨by rfl, ?_⟩) hS ?_
  rotate_left
  · intro W hW; obtain ⟨_, _, _, f0, f1⟩ := hW; go_simp; try (with_reducible rfl)
  clear hD hS; intro hD hS; (try simp only [Act.put, List.setIfInBounds_toArray, List.set_cons_zero, List.set_cons_succ])
  refine wpAnyT_take (i := 3) (v := ?_) rfl (by kernel_rfl) (by kernel_rfl) (by kernel_rfl) (fun _ _ _ h => h) (fun _ _ h => h) (fun _ _ h => h) hD (Or.inl ⟨by rfl, ?_⟩) hS ?_
  rotate_left
  · intro W hW; obtain ⟨_, _, _, f0, f1⟩ := hW; go_simp; try (with_reducible rfl)
  clear hD hS; intro hD hS; (try simp only [Act.put, List.setIfInBounds_toArray, List.set_cons_zero, List.set_cons_succ])
  refine wpAnyT_take (i := 4) (v := ?_) rfl (by kernel_rfl) (by kernel_rfl) (by kernel_rfl) (fun _ _ _ h => h) (fun _ _ h => h) (fun _ _ h => h) hD (Or.inl ⟨by rfl, ?_⟩) hS ?_
  rotate_left
  · intro W hW; obtain ⟨_, _, _, f0, f1⟩ := hW; go_simp; try (with_reducible rfl)
  clear hD hS; intro hD hS; (try simp only [Act.put, List.setIfInBounds_toArray, List.set_cons_zero, List.set_cons_succ])
  refine wpAnyT_take (i := 5) (v := ?_) rfl (by kernel_rfl) (by kernel_rfl) (by kernel_rfl) (fun _ _ _ h => h) (fun _ _ h => h) (fun _ _ h => h) hD (Or.inl ⟨by rfl, ?_⟩) hS ?_
  rotate_left
  · intro W hW; obtain ⟨_, _, _, f0, f1⟩ := hW; go_simp; try (with_reducible rfl)
  clear hD hS; intro hD hS; (try simp only [Act.put, List.setIfInBounds_toArray, List.set_cons_zero, List.set_cons_succ])
  refine wpAnyT_take (i := 6) (v := ?_) rfl (by kernel_rfl) (by kernel_rfl) (by kernel_rfl) (fun _ _ _ h => h) (fun _ _ h => h) (fun _ _ h => h) hD (Or.inl ⟨by rfl, ?_⟩) hS ?_
  rotate_left
  · intro W hW; obtain ⟨_, _, _, f0, f1⟩ := hW; go_simp; try (with_reducible rfl)
  clear hD hS; intro hD hS; (try simp only [Act.put, List.setIfInBounds_toArray, List.set_cons_zero, List.set_cons_succ])
  refine wpAnyT_one (i := 7) (by kernel_rfl) rfl hD (fun K' hK => ?_)
  go_simp
  refine HB.out.mono ?_
  rintro e w7 ⟨rfl, k7⟩
  exact ⟨rfl, rfl, (((Kept.refl _ _ _ _).alloc _).drew).trans k7⟩
/-- What the test of again reads. -/
def Sag2 (bf br window : Nat) (sl : Value) (_L : Array Bool) (W : World) : Prop := W.cell? ⟨bf, 0, none⟩ = some (.pointer (some ⟨br, 0, none⟩)) ∧ W.cell? ⟨br, 2, none⟩ = some sl ∧ W.cell? ⟨bf, 3, none⟩ = some (.int .i64 window)
set_option maxRecDepth 100000 in
set_option maxHeartbeats 1000000 in
theorem again_bad (h : Bi B br bf bd off cap d most fixed w p held left window ov out) (len dist : Nat) (h1 : 1 ≤ dist) (h2 : ¬ (dist ≤ out.length ∧ dist ≤ window)) (hdist : dist ≤ 1000000) (h5 : window ≤ 32768) :
    Calls Tryz.prog 315 #[.pointer (some ⟨bf, 0, none⟩), .int .i64 len, .int .i64 dist] w fun e w' => e = gaveUp 5 ∧ Kept 5 B [br, bf] w w' := by
  have c0 := h.c0
  have c3 := h.c3
  have r2 := h.rd.c2
  have lm := h.rd.lm
  have lo := h.rd.lo
  obtain ⟨ao, oc, hov⟩ := own_slice h.rd.own
  rw [hov] at r2
  clear hov
  have hmin : ∃ M : Nat, M = min out.length window ∧ M < dist := ⟨_, rfl, by omega⟩
  rcases Nat.lt_or_ge window out.length with hm | hm
  all_goals
    go_enter Tryz.func315, Tryz.ntmps315
    go_wp2_with fail
    refine wp_region_T (Sag2 bf br window (.slice ao out.length oc)) (by kernel_rfl) ?_
    intro hD
    have hS : Sag2 bf br window (.slice ao out.length oc) (Array.replicate 17 false) w.drew := ⟨c0, r2, c3⟩
    refine wpAnyT_take (i := 0) (v := ?_) rfl (by kernel_rfl) (by kernel_rfl) (by kernel_rfl) (fun _ _ _ h => h) (fun _ _ h => h) (fun _ _ h => h) hD (Or.inl ⟨by rfl, ?_⟩) hS ?_
    rotate_left
    · intro W hW; obtain ⟨_, _, _, f0, f1, f2⟩ := hW; go_simp; try (with_reducible rfl)
    clear hD hS; intro hD hS; (try simp only [Act.put, List.setIfInBounds_toArray, List.set_cons_zero, List.set_cons_succ])
    refine wpAnyT_take (i := 1) (v := ?_) rfl (by kernel_rfl) (by kernel_rfl) (by kernel_rfl) (fun _ _ _ h => h) (fun _ _ h => h) (fun _ _ h => h) hD (Or.inl ⟨by rfl, ?_⟩) hS ?_
    rotate_left
    · intro W hW; obtain ⟨_, _, _, f0, f1, f2⟩ := hW; go_simp; try (with_reducible rfl)
    clear hD hS; intro hD hS; (try simp only [Act.put, List.setIfInBounds_toArray, List.set_cons_zero, List.set_cons_succ])
    refine wpAnyT_take (i := 2) (v := ?_) rfl (by kernel_rfl) (by kernel_rfl) (by kernel_rfl) (fun _ _ _ h => h) (fun _ _ h => h) (fun _ _ h => h) hD (Or.inl ⟨by rfl, ?_⟩) hS ?_
    rotate_left
    · intro W hW; obtain ⟨_, _, _, f0, f1, f2⟩ := hW; go_simp; try (with_reducible rfl)
    clear hD hS; intro hD hS; (try simp only [Act.put, List.setIfInBounds_toArray, List.set_cons_zero, List.set_cons_succ])
    refine wpAnyT_take (i := 3) (v := ?_) rfl (by kernel_rfl) (by kernel_rfl) (by kernel_rfl) (fun _ _ _ h => h) (fun _ _ h => h) (fun _ _ h => h) hD (Or.inl ⟨by rfl, ?_⟩) hS ?_
    rotate_left
    · intro W hW; obtain ⟨_, _, _, f0, f1, f2⟩ := hW; go_simp; try (with_reducible rfl)
    clear hD hS; intro hD hS; (try simp only [Act.put, List.setIfInBounds_toArray, List.set_cons_zero, List.set_cons_succ])
    refine wpAnyT_take (i := 4) (v := ?_) rfl (by kernel_rfl) (by kernel_rfl) (by kernel_rfl) (fun _ _ _ h => h) (fun _ _ h => h) (fun _ _ h => h) hD (Or.inl ⟨by rfl, ?_⟩) hS ?_
    rotate_left
    · intro W hW; obtain ⟨_, _, _, f0, f1, f2⟩ := hW; go_simp; try (with_reducible rfl)
    clear hD hS; intro hD hS; (try simp only [Act.put, List.setIfInBounds_toArray, List.set_cons_zero, List.set_cons_succ])
    refine wpAnyT_take (i := 5) (v := ?_) rfl (by kernel_rfl) (by kernel_rfl) (by kernel_rfl) (fun _ _ _ h => h) (fun _ _ h => h) (fun _ _ h => h) hD (Or.inl ⟨by rfl, ?_⟩) hS ?_
    rotate_left
    · intro W hW; obtain ⟨_, _, _, f0, f1, f2⟩ := hW; go_simp; try (with_reducible rfl)
    clear hD hS; intro hD hS; (try simp only [Act.put, List.setIfInBounds_toArray, List.set_cons_zero, List.set_cons_succ])
    refine wpAnyT_take (i := 6) (v := ?_) rfl (by kernel_rfl) (by kernel_rfl) (by kernel_rfl) (fun _ _ _ h => h) (fun _ _ h => h) (fun _ _ h => h) hD (Or.inl ⟨by rfl, ?_⟩) hS ?_
    rotate_left
    · intro W hW; obtain ⟨_, _, _, f0, f1, f2⟩ := hW; go_simp; try (with_reducible rfl)
    clear hD hS; intro hD hS; (try simp only [Act.put, List.setIfInBounds_toArray, List.set_cons_zero, List.set_cons_succ])
    refine wpAnyT_take (i := 7) (v := ?_) rfl (by kernel_rfl) (by kernel_rfl) (by kernel_rfl) (fun _ _ _ h => h) (fun _ _ h => h) (fun _ _ h => h) hD (Or.inl ⟨by rfl, ?_⟩) hS ?_
    rotate_left
    · intro W hW; obtain ⟨_, _, _, f0, f1, f2⟩ := hW; go_simp; try (with_reducible rfl)
    clear hD hS; intro hD hS; (try simp only [Act.put, List.setIfInBounds_toArray, List.set_cons_zero, List.set_cons_succ])
    refine wpAnyT_take (i := 8) (v := ?_) rfl (by kernel_rfl) (by kernel_rfl) (by kernel_rfl) (fun _ _ _ h => h) (fun _ _ h => h) (fun _ _ h => h) hD (Or.inl ⟨by rfl, ?_⟩) hS ?_
    rotate_left
    · intro W hW; obtain ⟨_, _, _, f0, f1, f2⟩ := hW; go_simp; try (with_reducible rfl)
    clear hD hS; intro hD hS; (try simp only [Act.put, List.setIfInBounds_toArray, List.set_cons_zero, List.set_cons_succ])
    refine wpAnyT_take (i := 9) (v := ?_) rfl (by kernel_rfl) (by kernel_rfl) (by kernel_rfl) (fun _ _ _ h => h) (fun _ _ h => h) (fun _ _ h => h) hD (Or.inl ⟨by rfl, ?_⟩) hS ?_
    rotate_left
    · intro W hW; obtain ⟨_, _, _, f0, f1, f2⟩ := hW; go_simp; try (with_reducible rfl)
    clear hD hS; intro hD hS; (try simp only [Act.put, List.setIfInBounds_toArray, List.set_cons_zero, List.set_cons_succ])
    refine wpAnyT_take (i := 10) (v := ?_) rfl (by kernel_rfl) (by kernel_rfl) (by kernel_rfl) (fun _ _ _ h => h) (fun _ _ h => h) (fun _ _ h => h) hD (Or.inl ⟨by rfl, ?_⟩) hS ?_
    rotate_left
    · intro W hW; obtain ⟨_, _, _, f0, f1, f2⟩ := hW; go_simp; try (with_reducible rfl)
    clear hD hS; intro hD hS; (try simp only [Act.put, List.setIfInBounds_toArray, List.set_cons_zero, List.set_cons_succ])
    refine wpAnyT_take (i := 11) (v := ?_) rfl (by kernel_rfl) (by kernel_rfl) (by kernel_rfl) (fun _ _ _ h => h) (fun _ _ h => h) (fun _ _ h => h) hD (Or.inl ⟨by rfl, ?_⟩) hS ?_
    rotate_left
    · intro W hW; obtain ⟨_, _, _, f0, f1, f2⟩ := hW; go_simp; try (with_reducible rfl)
    clear hD hS; intro hD hS; (try simp only [Act.put, List.setIfInBounds_toArray, List.set_cons_zero, List.set_cons_succ])
    refine wpAnyT_take (i := 12) (v := ?_) rfl (by kernel_rfl) (by kernel_rfl) (by kernel_rfl) (fun _ _ _ h => h) (fun _ _ h => h) (fun _ _ h => h) hD (Or.inl ⟨by rfl, ?_⟩) hS ?_
    rotate_left
    · intro W hW; obtain ⟨_, _, _, f0, f1, f2⟩ := hW; go_simp; try (with_reducible rfl)
    clear hD hS; intro hD hS; (try simp only [Act.put, List.setIfInBounds_toArray, List.set_cons_zero, List.set_cons_succ])
    refine wpAnyT_take (i := 13) (v := ?_) rfl (by kernel_rfl) (by kernel_rfl) (by kernel_rfl) (fun _ _ _ h => h) (fun _ _ h => h) (fun _ _ h => h) hD (Or.inl ⟨by rfl, ?_⟩) hS ?_
    rotate_left
    · intro W hW; obtain ⟨_, _, _, f0, f1, f2⟩ := hW; go_simp; try (with_reducible rfl)
    clear hD hS; intro hD hS; (try simp only [Act.put, List.setIfInBounds_toArray, List.set_cons_zero, List.set_cons_succ])
    refine wpAnyT_take (i := 14) (v := ?_) rfl (by kernel_rfl) (by kernel_rfl) (by kernel_rfl) (fun _ _ _ h => h) (fun _ _ h => h) (fun _ _ h => h) hD (Or.inl ⟨by rfl, ?_⟩) hS ?_
    rotate_left
    · intro W hW; obtain ⟨_, _, _, f0, f1, f2⟩ := hW; go_simp; try (with_reducible rfl)
    clear hD hS; intro hD hS; (try simp only [Act.put, List.setIfInBounds_toArray, List.set_cons_zero, List.set_cons_succ])
    refine wpAnyT_one (i := 15) (by kernel_rfl) rfl hD (fun K' hK => ?_)
    go_simp
    refine (within_int_no _ _ _ _ (Or.inr (by omega))).mono ?_
    rintro e w7 ⟨rfl, rfl⟩
    refine hK.out _ _ hS (fun hD2 hS2 => ?_)
    clear hD hS hK K'
    have hD := hD2
    have hS := hS2
    clear hD2 hS2
    (try simp only [Act.put, List.setIfInBounds_toArray, List.set_cons_zero, List.set_cons_succ])
    refine wpAnyT_one (i := 16) (by kernel_rfl) rfl hD (fun K' hK => ?_)
    go_simp
    refine (must_nob _ rfl _).mono ?_
    rintro e w7 ⟨rfl, rfl⟩
    exact ⟨rfl, rfl, (Kept.refl _ _ _ _).drewN 1⟩
end Go.Proofs.YtgkljcmjnphpeaaGreatDoor
