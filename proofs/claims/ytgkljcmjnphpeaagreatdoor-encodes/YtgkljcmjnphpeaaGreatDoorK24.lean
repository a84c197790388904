/- Filter 4 read: a block's own codes: what one symbol of their lengths comes to. -/
import Derived.Test.YtgkljcmjnphpeaaGreatDoorK23
set_option linter.unusedVariables false
set_option linter.unusedSimpArgs false
namespace Go.Proofs.YtgkljcmjnphpeaaGreatDoor
open Go.RowKit
variable {B br bf bd off cap : Nat} {d : List Nat} {most : Nat} {fixed : List Value} {w : World} {p held left window : Nat} {ov : Value} {out : List Nat}
theorem ml_none {bc : Nat} {cs ss : List Nat} (hsum : psum cs 15 ≤ ss.length) (hss : ss.length ≤ 1000) {r : List Bool} {B' : Nat} {v : Value} {L : List Nat}
    (hC : ∀ w' r, Fl B br bf bd off cap d most fixed w' r window ov out → Kept 5 B [br, bf] w w' → Cd w' bc 0 cs ss) (h : Fl B br bf bd off cap d most fixed w r window ov out) (own : w.ownsRow B' 3 1 v L.length (ints L)) (hB : B' ≤ w.heap.size) (hbd : bd < B') (hL : L.length ≤ 1000) (hs : Fo.sym cs ss r = none) :
    Calls Tryz.prog 316 #[.pointer (some ⟨bf, 0, none⟩), v, .pointer (some ⟨bc, 0, none⟩)] w fun e w' => e = gaveUp 5 ∧ Kept 5 B [br, bf] w w' := by
  obtain ⟨a0, c0, rfl⟩ := own_slice own
  have HSY := hide (symbol_none bc 0 cs ss hsum hss hC hs h)
  clear hs
  go_enter Tryz.func316, Tryz.ntmps316
  go_wp2_with fail
  refine HSY.out.mono ?_
  rintro e w1 ⟨rfl, k1⟩
  exact ⟨rfl, rfl, k1⟩
theorem ml_end {B' : Nat} {L : List Nat} {W : World} {r2 : List Bool} {X T : Nat} (FW : Fl B br bf bd off cap d most fixed W r2 window ov out) (KW : Kept 5 B [br, bf] w W) (hbd : bd < B') (v' : Value) (w' : World) (ow : w'.ownsRow B' 3 1 v' (L.length + T) (ints (L ++ List.replicate T X))) (k : Kept 3 B' [] W w') :
    ∃ v'', Ending.returned v' = .returned v'' ∧ w'.ownsRow B' 3 1 v'' (L.length + T) (ints (L ++ List.replicate T X)) ∧ Fl B br bf bd off cap d most fixed w' r2 window ov out ∧ ∃ wm, Kept 5 B [br, bf] w wm ∧ Kept 3 B' [] wm w' :=
  ⟨v', rfl, ow, FW.keptI k hbd, W, KW, k⟩
set_option maxRecDepth 100000 in
set_option maxHeartbeats 1000000 in
theorem ml_lit {bc : Nat} {cs ss : List Nat} (hsum : psum cs 15 ≤ ss.length) (hss : ss.length ≤ 1000) {r : List Bool} {B' : Nat} {v : Value} {L : List Nat}
    (hC : ∀ w' r, Fl B br bf bd off cap d most fixed w' r window ov out → Kept 5 B [br, bf] w w' → Cd w' bc 0 cs ss) (h : Fl B br bf bd off cap d most fixed w r window ov out) (own : w.ownsRow B' 3 1 v L.length (ints L)) (hB : B' ≤ w.heap.size) (hbd : bd < B') (hL : L.length ≤ 1000) {s : Nat} {r1 : List Bool} (hs : Fo.sym cs ss r = some (s, r1)) (h16 : s < 16) :
    Calls Tryz.prog 316 #[.pointer (some ⟨bf, 0, none⟩), v, .pointer (some ⟨bc, 0, none⟩)] w fun e w' => ∃ v', e = .returned v' ∧ w'.ownsRow B' 3 1 v' (L.length + 1) (ints (L ++ List.replicate 1 s)) ∧ Fl B br bf bd off cap d most fixed w' r1 window ov out ∧ ∃ wm, Kept 5 B [br, bf] w wm ∧ Kept 3 B' [] wm w' := by
  obtain ⟨a0, c0, rfl⟩ := own_slice own
  have HSY := hide (symbol_ok bc 0 cs ss hsum hss hC hs h)
  clear hs
  have e16 : ((s : Int) == 16) = false := by simp; omega
  have e17 : ((s : Int) == 17) = false := by simp; omega
  have e18 : ((s : Int) == 18) = false := by simp; omega
  obtain ⟨i0, hi, hz0, hz1, hz2⟩ := info_parts Tryz.infoInt
  have OWN := hide own
  clear own
  go_enter Tryz.func316, Tryz.ntmps316
  go_wp2_with fail
  refine HSY.out.mono ?_
  rintro e W ⟨rfl, f1, k1⟩
  have OWW := hide (ownI_keptF OWN.out h k1)
  have HEND := hide (ml_end (L := L) (X := s) (T := 1) f1 k1 hbd)
  have hW : B' ≤ W.heap.size := Nat.le_trans hB k1.size
  clear OWN h f1 k1 HSY hC
  go_wp2
  clear e16 e17 e18
  go_loopw [1, 49] (fun vl vi wr => ∃ j : Nat, j ≤ 1 ∧ vi = .int .i64 j ∧ wr.ownsRow B' 3 1 vl (L.length + j) (ints (L ++ List.replicate j s)) ∧ Kept 3 B' [] W wr) (fun _ vi _ => 1 - (intOf vi).toNat)
  case atStart => exact ⟨0, Nat.zero_le _, rfl, by simpa using OWW.out, Kept.refl _ _ _ _⟩
  clear OWW
  case round =>
    obtain ⟨j, hj, rfl, ow, kk⟩ := hrel
    have hsz := kk.size
    obtain ⟨a0, c0, rfl⟩ := own_slice ow
    have OW := hide ow
    have KK := hide kk
    clear ow kk
    by_cases cj : j < 1
    · have cj' : (j : Int) < 1 := by omega
      go_wp2_with (at_builtin; refine wpList_append_own _ rfl (.tmp 51) (.tmp 53) 52 rfl B' 3 i0 (.int .i64 0) 1 8 Tryz.underlying52 hi hz0 hz1 hz2 rfl (by decide) (.slice a0 (L.length + j) c0) (L.length + j) _ rfl (OW.out.alloc _) ⟨wr.heap.size, 0, none⟩ 1 1 [.int .i64 (s : Int)] rfl rfl ?hnews ?hone ?h63 ?hby ?hbs ?_)
      case hnews => exact newsI1
      case hone => intro u hu; simp at hu; subst hu; rfl
      case h63 => unfold maxLen; omega
      case hby => omega
      case hbs => simp; omega
      intro v2 w2 own2 hg2 _
      have K2 := hide ((KK.out.alloc _).grown hg2 (own_row (OW.out.alloc _)))
      have hex : ints (L ++ List.replicate j s) ++ [.int .i64 (s : Int)] = ints (L ++ List.replicate (j + 1) s) := by
        rw [List.replicate_succ', ← List.append_assoc]
        simp [ints]
      rw [hex] at own2
      have O2 := hide own2
      obtain ⟨a2, c2, hv2⟩ := own_slice own2
      subst hv2
      clear own2 hg2 hex
      go_wp2
      go_roundw
      case rel => exact ⟨j + 1, by omega, by go_num, O2.out, K2.out⟩
      case measure => simp [intOf]; omega
    · obtain rfl : j = 1 := by omega
      have cj' : ¬ ((1 : Nat) : Int) < 1 := by omega
      go_wp2
      go_ret
      exact HEND.out _ _ OW.out KK.out
theorem ml_ahead0 {bc : Nat} {cs ss : List Nat} (hsum : psum cs 15 ≤ ss.length) (hss : ss.length ≤ 1000) {r : List Bool} {B' : Nat} {v : Value} {L : List Nat}
    (hC : ∀ w' r, Fl B br bf bd off cap d most fixed w' r window ov out → Kept 5 B [br, bf] w w' → Cd w' bc 0 cs ss) (h : Fl B br bf bd off cap d most fixed w r window ov out) (own : w.ownsRow B' 3 1 v L.length (ints L)) (hB : B' ≤ w.heap.size) (hbd : bd < B') (hL : L.length ≤ 1000) {r1 : List Bool} (hs : Fo.sym cs ss r = some (16, r1)) (h0 : L.length = 0) :
    Calls Tryz.prog 316 #[.pointer (some ⟨bf, 0, none⟩), v, .pointer (some ⟨bc, 0, none⟩)] w fun e w' => e = gaveUp 5 ∧ Kept 5 B [br, bf] w w' := by
  obtain ⟨a0, c0, rfl⟩ := own_slice own
  have HSY := hide (symbol_ok bc 0 cs ss hsum hss hC hs h)
  clear hs
  rw [h0]
  go_enter Tryz.func316, Tryz.ntmps316
  go_wp2_with fail
  refine HSY.out.mono ?_
  rintro e W ⟨rfl, f1, k1⟩
  go_wp2_with fail
  refine (must_nob _ rfl _).mono ?_
  rintro e w' ⟨rfl, rfl⟩
  exact ⟨rfl, rfl, k1⟩
/-- What the way back to the last length reads. -/
def Sml (g M X : Nat) (_L : Array Bool) (W : World) : Prop := W.cell? ⟨g, M, none⟩ = some (.int .i64 X)
theorem cell_keptF {rest : List Bool} {w' : World} {g M : Nat} {u : Value} {cur : Array Value} {fz : Nat × Nat} (hg : w.heap[g]? = some (.cells cur 3 fz)) (r : Fl B br bf bd off cap d most fixed w rest window ov out) (k : Kept 5 B [br, bf] w w') (hc : w.cell? ⟨g, M, none⟩ = some u) : w'.cell? ⟨g, M, none⟩ = some u := by
  have hne : g ∉ [br, bf] := by
    obtain ⟨p, held, left, hb, _, _⟩ := r
    intro hg'
    rcases List.mem_cons.1 hg' with rfl | hg'
    · rw [hb.rd.blk] at hg; simp at hg
    · rcases List.mem_cons.1 hg' with rfl | hg'
      · rw [hb.blk] at hg; simp at hg
      · cases hg'
  have h2 := k.block g _ hne hg (Or.inr (by intro c fz e; simp at e))
  rw [cell_blk hg] at hc
  rw [cell_blk h2]
  exact hc
set_option maxRecDepth 100000 in
set_option maxHeartbeats 1000000 in
theorem ml_ahead_none {bc : Nat} {cs ss : List Nat} (hsum : psum cs 15 ≤ ss.length) (hss : ss.length ≤ 1000) {r : List Bool} {B' : Nat} {v : Value} {L : List Nat}
    (hC : ∀ w' r, Fl B br bf bd off cap d most fixed w' r window ov out → Kept 5 B [br, bf] w w' → Cd w' bc 0 cs ss) (h : Fl B br bf bd off cap d most fixed w r window ov out) (own : w.ownsRow B' 3 1 v L.length (ints L)) (hB : B' ≤ w.heap.size) (hbd : bd < B') (hL : L.length ≤ 1000) {r1 : List Bool} (hs : Fo.sym cs ss r = some (16, r1)) (h0 : 0 < L.length) (h2 : r1.length < 2) :
    Calls Tryz.prog 316 #[.pointer (some ⟨bf, 0, none⟩), v, .pointer (some ⟨bc, 0, none⟩)] w fun e w' => e = gaveUp 5 ∧ Kept 5 B [br, bf] w w' := by
  obtain ⟨g, oc, hv, _⟩ := own_form own h0
  subst hv
  obtain ⟨M, hM⟩ : ∃ M, L.length = M + 1 := ⟨L.length - 1, by omega⟩
  have HM := hide hM
  have hx := own.cellAt M (by omega)
  rw [show (ints L)[M]? = some (.int .i64 (nth L M : Nat)) from ints_get L M (by omega)] at hx
  have hx : w.cell? ⟨g, M, none⟩ = some (.int .i64 (nth L M : Nat)) := by simpa using hx
  obtain ⟨X, hX⟩ : ∃ X, nth L M = X := ⟨_, rfl⟩
  rw [hX] at hx
  have HSY := hide (symbol_ok bc 0 cs ss hsum hss hC hs h)
  clear hs
  obtain ⟨_, cur, fz, hgb⟩ := own_row own g rfl
  go_enter Tryz.func316, Tryz.ntmps316
  go_wp2_with fail
  refine HSY.out.mono ?_
  rintro e W ⟨rfl, f1, k1⟩
  have hxW := cell_keptF hgb h k1 hx
  have HB := hide (bits_none (w := W.drew) 2 (by omega) h2 f1.drew)
  have K1 := hide k1
  clear hx hgb h f1 k1 HSY hC own hX
  have hl0 : (0 : Int) < L.length := by omega
  have hM0 : (M : Int) < L.length := by omega
  have hM1 : (0 : Int) ≤ (M : Int) := by omega
  have hM2 : Hid (((L.length : Int) - 1 + 9223372036854775808) % 18446744073709551616 - 9223372036854775808 = (M : Int)) := by unfold Hid; omega
  clear hM
  go_wp2_with (go_at_call 163; refine (must_yes _).mono ?_; rintro e w' ⟨rfl, rfl⟩)
  refine wp_region_T (Sml g M X) (by kernel_rfl) ?_
  intro hD
  have hS : Sml g M X (Array.replicate 13 false) w'.drew := hxW
  refine wpAnyT_take (i := 0) (v := ?_) rfl (by kernel_rfl) (by kernel_rfl) (by kernel_rfl) (fun _ _ _ h => h) (fun _ _ h => h) (fun _ _ h => h) hD (Or.inl ⟨by rfl, ?_⟩) hS ?_
  rotate_left
  · intro W hW; obtain ⟨_, _, _, f0⟩ := hW; unfold Sml at f0; go_simp; try (with_reducible rfl)
  clear hD hS; intro hD hS; (try simp only [Act.put, List.setIfInBounds_toArray, List.set_cons_zero, List.set_cons_succ])
  refine wpAnyT_take (i := 1) (v := ?_) rfl (by kernel_rfl) (by kernel_rfl) (by kernel_rfl) (fun _ _ _ h => h) (fun _ _ h => h) (fun _ _ h => h) hD (Or.inl ⟨by rfl, ?_⟩) hS ?_
  rotate_left
  · intro W hW; obtain ⟨_, _, _, f0⟩ := hW; unfold Sml at f0; go_simp; try (with_reducible rfl)
  clear hD hS; intro hD hS; (try simp only [Act.put, List.setIfInBounds_toArray, List.set_cons_zero, List.set_cons_succ])
  refine wpAnyT_take (i := 2) (v := ?_) rfl (by kernel_rfl) (by kernel_rfl) (by kernel_rfl) (fun _ _ _ h => h) (fun _ _ h => h) (fun _ _ h => h) hD (Or.inl ⟨by rfl, ?_⟩) hS ?_
  rotate_left
  · intro W hW; obtain ⟨_, _, _, f0⟩ := hW; unfold Sml at f0; go_simp; try (with_reducible rfl)
  clear hD hS; intro hD hS; (try simp only [Act.put, List.setIfInBounds_toArray, List.set_cons_zero, List.set_cons_succ])
  refine wpAnyT_take (i := 3) (v := .int .i64 (M : Nat)) rfl (by kernel_rfl) (by kernel_rfl) (by kernel_rfl) (fun _ _ _ h => h) (fun _ _ h => h) (fun _ _ h => h) hD (Or.inl ⟨by rfl, ?_⟩) hS ?_
  · intro W hW; go_simp; rw [IntKind.wrap_i64]; have := HM.out; omega
  clear hD hS; intro hD hS; (try simp only [Act.put, List.setIfInBounds_toArray, List.set_cons_zero, List.set_cons_succ])
  refine wpAnyT_take (i := 4) (v := ?_) rfl (by kernel_rfl) (by kernel_rfl) (by kernel_rfl) (fun _ _ _ h => h) (fun _ _ h => h) (fun _ _ h => h) hD (Or.inl ⟨by rfl, ?_⟩) hS ?_
  rotate_left
  · intro W hW; obtain ⟨_, _, _, f0⟩ := hW; unfold Sml at f0; go_simp; try (with_reducible rfl)
  clear hD hS; intro hD hS; (try simp only [Act.put, List.setIfInBounds_toArray, List.set_cons_zero, List.set_cons_succ])
  refine wpAnyT_take (i := 5) (v := ?_) rfl (by kernel_rfl) (by kernel_rfl) (by kernel_rfl) (fun _ _ _ h => h) (fun _ _ h => h) (fun _ _ h => h) hD (Or.inl ⟨by rfl, ?_⟩) hS ?_
  rotate_left
  · intro W hW; obtain ⟨_, _, _, f0⟩ := hW; unfold Sml at f0; go_simp; try (with_reducible rfl)
  clear hD hS; intro hD hS; (try simp only [Act.put, List.setIfInBounds_toArray, List.set_cons_zero, List.set_cons_succ])
  refine wpAnyT_take (i := 6) (v := ?_) rfl (by kernel_rfl) (by kernel_rfl) (by kernel_rfl) (fun _ _ _ h => h) (fun _ _ h => h) (fun _ _ h => h) hD (Or.inl ⟨by rfl, ?_⟩) hS ?_
  rotate_left
  · intro W hW; obtain ⟨_, _, _, f0⟩ := hW; unfold Sml at f0; go_simp; try (with_reducible rfl)
  clear hD hS; intro hD hS; (try simp only [Act.put, List.setIfInBounds_toArray, List.set_cons_zero, List.set_cons_succ])
  refine wpAnyT_take (i := 7) (v := ?_) rfl (by kernel_rfl) (by kernel_rfl) (by kernel_rfl) (fun _ _ _ h => h) (fun _ _ h => h) (fun _ _ h => h) hD (Or.inl ⟨by rfl, ?_⟩) hS ?_
  rotate_left
  · intro W hW; obtain ⟨_, _, _, f0⟩ := hW; unfold Sml at f0; go_simp; try (with_reducible rfl)
  clear hD hS; intro hD hS; (try simp only [Act.put, List.setIfInBounds_toArray, List.set_cons_zero, List.set_cons_succ])
  refine wpAnyT_take (i := 8) (v := ?_) rfl (by kernel_rfl) (by kernel_rfl) (by kernel_rfl) (fun _ _ _ h => h) (fun _ _ h => h) (fun _ _ h => h) hD (Or.inl ⟨by rfl, ?_⟩) hS ?_
  rotate_left
  · intro W hW; obtain ⟨_, _, _, f0⟩ := hW; unfold Sml at f0; go_simp; try (with_reducible rfl)
  clear hD hS; intro hD hS; (try simp only [Act.put, List.setIfInBounds_toArray, List.set_cons_zero, List.set_cons_succ])
  refine wpAnyT_one (i := 9) (by kernel_rfl) rfl hD (fun K' hK => ?_)
  go_simp
  refine HB.out.mono ?_
  rintro e w2 ⟨rfl, k2⟩
  exact ⟨rfl, rfl, (K1.out.drew).trans k2⟩
set_option maxRecDepth 100000 in
set_option maxHeartbeats 1000000 in
theorem ml_ahead {bc : Nat} {cs ss : List Nat} (hsum : psum cs 15 ≤ ss.length) (hss : ss.length ≤ 1000) {r : List Bool} {B' : Nat} {v : Value} {L : List Nat}
    (hC : ∀ w' r, Fl B br bf bd off cap d most fixed w' r window ov out → Kept 5 B [br, bf] w w' → Cd w' bc 0 cs ss) (h : Fl B br bf bd off cap d most fixed w r window ov out) (own : w.ownsRow B' 3 1 v L.length (ints L)) (hB : B' ≤ w.heap.size) (hbd : bd < B') (hL : L.length ≤ 1000) {r1 : List Bool} (hs : Fo.sym cs ss r = some (16, r1)) (h0 : 0 < L.length) (h2 : 2 ≤ r1.length) :
    Calls Tryz.prog 316 #[.pointer (some ⟨bf, 0, none⟩), v, .pointer (some ⟨bc, 0, none⟩)] w fun e w' => ∃ v', e = .returned v' ∧ w'.ownsRow B' 3 1 v' (L.length + (3 + Fo.val (r1.take 2))) (ints (L ++ List.replicate (3 + Fo.val (r1.take 2)) (nth L (L.length - 1)))) ∧ Fl B br bf bd off cap d most fixed w' (r1.drop 2) window ov out ∧ ∃ wm, Kept 5 B [br, bf] w wm ∧ Kept 3 B' [] wm w' := by
  obtain ⟨g, oc, hv, _⟩ := own_form own h0
  subst hv
  obtain ⟨M, hM⟩ : ∃ M, L.length = M + 1 := ⟨L.length - 1, by omega⟩
  have HM := hide hM
  have hx := own.cellAt M (by omega)
  rw [show (ints L)[M]? = some (.int .i64 (nth L M : Nat)) from ints_get L M (by omega)] at hx
  have hx : w.cell? ⟨g, M, none⟩ = some (.int .i64 (nth L M : Nat)) := by simpa using hx
  obtain ⟨X, hX⟩ : ∃ X, nth L M = X := ⟨_, rfl⟩
  rw [hX] at hx
  have HSY := hide (symbol_ok bc 0 cs ss hsum hss hC hs h)
  clear hs
  obtain ⟨_, cur, fz, hgb⟩ := own_row own g rfl
  obtain ⟨i0, hi, hz0, hz1, hz2⟩ := info_parts Tryz.infoInt
  have hLM : L.length - 1 = M := by omega
  rw [hLM, hX]
  have hv4 : Fo.val (r1.take 2) < 4 := by
    have := Fo.val_lt (r1.take 2)
    rw [List.length_take, Nat.min_eq_left h2] at this
    exact this
  obtain ⟨V, hV⟩ : ∃ V, Fo.val (r1.take 2) = V := ⟨_, rfl⟩
  rw [hV] at hv4 ⊢
  obtain ⟨T, hT⟩ : ∃ T, 3 + V = T := ⟨_, rfl⟩
  rw [hT]
  have OWN := hide own
  clear own
  go_enter Tryz.func316, Tryz.ntmps316
  go_wp2_with fail
  refine HSY.out.mono ?_
  rintro e w1 ⟨rfl, f1, k1⟩
  have hx1 := cell_keptF hgb h k1 hx
  have OW1 := hide (ownI_keptF OWN.out h k1)
  have hgb1 : w1.heap[g]? = some (.cells cur 3 fz) := by
    obtain ⟨q1, q2⟩ := OW1.out
    refine k1.block g _ ?_ hgb (Or.inr (by intro c fz e; simp at e))
    obtain ⟨p, held, left, hb, _, _⟩ := h
    intro hg'
    rcases List.mem_cons.1 hg' with rfl | hg'
    · rw [hb.rd.blk] at hgb; simp at hgb
    · rcases List.mem_cons.1 hg' with rfl | hg'
      · rw [hb.blk] at hgb; simp at hgb
      · cases hg'
  have HB := hide (bits_ok (w := w1.drew) 2 (by omega) h2 f1.drew)
  rw [hV] at HB
  have HC2 : Hid (∀ w2, Kept 5 B [br, bf] w1.drew w2 → w2.cell? ⟨g, M, none⟩ = some (.int .i64 (X : Nat)) ∧ w2.ownsRow B' 3 1 (.slice (some ⟨g, 0, none⟩) L.length oc) L.length (ints L)) := fun w2 k => ⟨cell_keptF (w := w1.drew) hgb1 f1.drew k hx1, ownI_keptF (w := w1.drew) OW1.out f1.drew k⟩
  have hW1 : B' ≤ w1.heap.size := Nat.le_trans hB k1.size
  have K1 := hide k1
  clear hx hgb h f1 k1 HSY hC OWN OW1 hX hV hLM hgb1
  have hl0 : (0 : Int) < L.length := by omega
  have eM : IntKind.i64.wrap ((L.length : Int) - 1) = (M : Int) := by rw [IntKind.wrap_i64]; omega
  have hM0 : (M : Int) < L.length := by omega
  have hM1 : (0 : Int) ≤ (M : Int) := by omega
  have HTT := hide hT
  clear hM hT
  go_wp2_with (go_at_call 163; refine (must_yes _).mono ?_; rintro e w' ⟨rfl, rfl⟩)
  go_region_with (go_at_call 221; refine HB.out.mono ?_; rintro e W ⟨rfl, f2, k2⟩; have hx2 := (HC2.out W k2).1)
  all_goals (
    have OWW := hide (HC2.out W k2).2
    have KW := hide ((K1.out.drew).trans k2)
    have HEND := hide (ml_end (L := L) (X := X) (T := T) f2 KW.out hbd)
    have hW : B' ≤ W.heap.size := Nat.le_trans hW1 k2.size
    have hT1 : T ≤ 300 := by have := HTT.out; omega
    clear f2 k2 hx2
    go_wp2
    rw [show (3 : Int) + (V : Int) = (T : Nat) by have := HTT.out; omega]
    clear HTT
    go_loopw [1, 49] (fun vl vi wr => ∃ j : Nat, j ≤ T ∧ vi = .int .i64 j ∧ wr.ownsRow B' 3 1 vl (L.length + j) (ints (L ++ List.replicate j X)) ∧ Kept 3 B' [] W wr) (fun _ vi _ => T - (intOf vi).toNat)
    case atStart => exact ⟨0, Nat.zero_le _, rfl, by simpa using OWW.out, Kept.refl _ _ _ _⟩
    clear OWW
    case round =>
      obtain ⟨j, hj, rfl, ow, kk⟩ := hrel
      have hsz := kk.size
      obtain ⟨a0, c0, rfl⟩ := own_slice ow
      have OW := hide ow
      have KK := hide kk
      clear ow kk
      by_cases cj : j < T
      · have cj' : (j : Int) < T := by omega
        go_wp2_with (at_builtin; refine wpList_append_own _ rfl (.tmp 51) (.tmp 53) 52 rfl B' 3 i0 (.int .i64 0) 1 8 Tryz.underlying52 hi hz0 hz1 hz2 rfl (by decide) (.slice a0 (L.length + j) c0) (L.length + j) _ rfl (OW.out.alloc _) ⟨wr.heap.size, 0, none⟩ 1 1 [.int .i64 (X : Int)] rfl rfl ?hnews ?hone ?h63 ?hby ?hbs ?_)
        case hnews => exact newsI1
        case hone => intro u hu; simp at hu; subst hu; rfl
        case h63 => unfold maxLen; omega
        case hby => omega
        case hbs => simp; omega
        intro v2 w2 own2 hg2 _
        have K2 := hide ((KK.out.alloc _).grown hg2 (own_row (OW.out.alloc _)))
        have hex : ints (L ++ List.replicate j X) ++ [.int .i64 (X : Int)] = ints (L ++ List.replicate (j + 1) X) := by
          rw [List.replicate_succ', ← List.append_assoc]
          simp [ints]
        rw [hex] at own2
        have O2 := hide own2
        obtain ⟨a2, c2, hv2⟩ := own_slice own2
        subst hv2
        clear own2 hg2 hex
        go_wp2
        go_roundw
        case rel => exact ⟨j + 1, by omega, by go_num, O2.out, K2.out⟩
        case measure => simp [intOf]; omega
      · obtain rfl : j = T := by omega
        have cj' : ¬ (j : Int) < j := by omega
        go_wp2
        go_ret
        exact HEND.out _ _ OW.out KK.out)
set_option maxRecDepth 100000 in
theorem ml_zero_none {bc : Nat} {cs ss : List Nat} (hsum : psum cs 15 ≤ ss.length) (hss : ss.length ≤ 1000) {r : List Bool} {B' : Nat} {v : Value} {L : List Nat}
    (hC : ∀ w' r, Fl B br bf bd off cap d most fixed w' r window ov out → Kept 5 B [br, bf] w w' → Cd w' bc 0 cs ss) (h : Fl B br bf bd off cap d most fixed w r window ov out) (own : w.ownsRow B' 3 1 v L.length (ints L)) (hB : B' ≤ w.heap.size) (hbd : bd < B') (hL : L.length ≤ 1000) {r1 : List Bool} (hs : Fo.sym cs ss r = some (17, r1)) (h2 : r1.length < 3) :
    Calls Tryz.prog 316 #[.pointer (some ⟨bf, 0, none⟩), v, .pointer (some ⟨bc, 0, none⟩)] w fun e w' => e = gaveUp 5 ∧ Kept 5 B [br, bf] w w' := by
  obtain ⟨a0, c0, rfl⟩ := own_slice own
  have HSY := hide (symbol_ok bc 0 cs ss hsum hss hC hs h)
  clear hs
  go_enter Tryz.func316, Tryz.ntmps316
  go_wp2_with fail
  refine HSY.out.mono ?_
  rintro e w1 ⟨rfl, f1, k1⟩
  have HB := hide (bits_none 3 (by omega) h2 f1)
  go_wp2_with fail
  refine HB.out.mono ?_
  rintro e w2 ⟨rfl, k2⟩
  exact ⟨rfl, rfl, k1.trans k2⟩
set_option maxRecDepth 100000 in
set_option maxHeartbeats 1000000 in
theorem ml_zero {bc : Nat} {cs ss : List Nat} (hsum : psum cs 15 ≤ ss.length) (hss : ss.length ≤ 1000) {r : List Bool} {B' : Nat} {v : Value} {L : List Nat}
    (hC : ∀ w' r, Fl B br bf bd off cap d most fixed w' r window ov out → Kept 5 B [br, bf] w w' → Cd w' bc 0 cs ss) (h : Fl B br bf bd off cap d most fixed w r window ov out) (own : w.ownsRow B' 3 1 v L.length (ints L)) (hB : B' ≤ w.heap.size) (hbd : bd < B') (hL : L.length ≤ 1000) {r1 : List Bool} (hs : Fo.sym cs ss r = some (17, r1)) (h2 : 3 ≤ r1.length) :
    Calls Tryz.prog 316 #[.pointer (some ⟨bf, 0, none⟩), v, .pointer (some ⟨bc, 0, none⟩)] w fun e w' => ∃ v', e = .returned v' ∧ w'.ownsRow B' 3 1 v' (L.length + (3 + Fo.val (r1.take 3))) (ints (L ++ List.replicate (3 + Fo.val (r1.take 3)) 0)) ∧ Fl B br bf bd off cap d most fixed w' (r1.drop 3) window ov out ∧ ∃ wm, Kept 5 B [br, bf] w wm ∧ Kept 3 B' [] wm w' := by
  obtain ⟨a0, c0, rfl⟩ := own_slice own
  have HSY := hide (symbol_ok bc 0 cs ss hsum hss hC hs h)
  clear hs
  obtain ⟨i0, hi, hz0, hz1, hz2⟩ := info_parts Tryz.infoInt
  have hv4 : Fo.val (r1.take 3) < 8 := by
    have := Fo.val_lt (r1.take 3)
    rw [List.length_take, Nat.min_eq_left h2] at this
    exact this
  obtain ⟨V, hV⟩ : ∃ V, Fo.val (r1.take 3) = V := ⟨_, rfl⟩
  rw [hV] at hv4 ⊢
  obtain ⟨T, hT⟩ : ∃ T, 3 + V = T := ⟨_, rfl⟩
  rw [hT]
  have OWN := hide own
  clear own
  go_enter Tryz.func316, Tryz.ntmps316
  go_wp2_with fail
  refine HSY.out.mono ?_
  rintro e w1 ⟨rfl, f1, k1⟩
  have OW1 := hide (ownI_keptF OWN.out h k1)
  have HB := hide (bits_ok 3 (by omega) h2 f1)
  rw [hV] at HB
  have HC2 : Hid (∀ w2, Kept 5 B [br, bf] w1 w2 → w2.ownsRow B' 3 1 (.slice a0 L.length c0) L.length (ints L)) := fun w2 k => ownI_keptF OW1.out f1 k
  have hW1 : B' ≤ w1.heap.size := Nat.le_trans hB k1.size
  have K1 := hide k1
  have HTT := hide hT
  clear h f1 k1 HSY hC OWN OW1 hV hT
  go_wp2_with fail
  refine HB.out.mono ?_
  rintro e W ⟨rfl, f2, k2⟩
  have OWW := hide (HC2.out W k2)
  have KW := hide (K1.out.trans k2)
  have HEND := hide (ml_end (L := L) (X := 0) (T := T) f2 KW.out hbd)
  have hW : B' ≤ W.heap.size := Nat.le_trans hW1 k2.size
  have hT1 : T ≤ 300 := by have := HTT.out; omega
  clear f2 k2
  go_wp2
  rw [show (3 : Int) + (V : Int) = (T : Nat) by have := HTT.out; omega]
  clear HTT
  go_loopw [1, 49] (fun vl vi wr => ∃ j : Nat, j ≤ T ∧ vi = .int .i64 j ∧ wr.ownsRow B' 3 1 vl (L.length + j) (ints (L ++ List.replicate j 0)) ∧ Kept 3 B' [] W wr) (fun _ vi _ => T - (intOf vi).toNat)
  case atStart => exact ⟨0, Nat.zero_le _, rfl, by simpa using OWW.out, Kept.refl _ _ _ _⟩
  clear OWW
  case round =>
    obtain ⟨j, hj, rfl, ow, kk⟩ := hrel
    have hsz := kk.size
    obtain ⟨a0, c0, rfl⟩ := own_slice ow
    have OW := hide ow
    have KK := hide kk
    clear ow kk
    by_cases cj : j < T
    · have cj' : (j : Int) < T := by omega
      go_wp2_with (at_builtin; refine wpList_append_own _ rfl (.tmp 51) (.tmp 53) 52 rfl B' 3 i0 (.int .i64 0) 1 8 Tryz.underlying52 hi hz0 hz1 hz2 rfl (by decide) (.slice a0 (L.length + j) c0) (L.length + j) _ rfl (OW.out.alloc _) ⟨wr.heap.size, 0, none⟩ 1 1 [.int .i64 0] rfl rfl ?hnews ?hone ?h63 ?hby ?hbs ?_)
      case hnews => exact newsI1
      case hone => intro u hu; simp at hu; subst hu; rfl
      case h63 => unfold maxLen; omega
      case hby => omega
      case hbs => simp; omega
      intro v2 w2 own2 hg2 _
      have K2 := hide ((KK.out.alloc _).grown hg2 (own_row (OW.out.alloc _)))
      have hex : ints (L ++ List.replicate j 0) ++ [.int .i64 0] = ints (L ++ List.replicate (j + 1) 0) := by
        rw [List.replicate_succ', ← List.append_assoc]
        simp [ints]
      rw [hex] at own2
      have O2 := hide own2
      obtain ⟨a2, c2, hv2⟩ := own_slice own2
      subst hv2
      clear own2 hg2 hex
      go_wp2
      go_roundw
      case rel => exact ⟨j + 1, by omega, by go_num, O2.out, K2.out⟩
      case measure => simp [intOf]; omega
    · obtain rfl : j = T := by omega
      have cj' : ¬ (j : Int) < j := by omega
      go_wp2
      go_ret
      exact HEND.out _ _ OW.out KK.out
set_option maxRecDepth 100000 in
theorem ml_zeros_none {bc : Nat} {cs ss : List Nat} (hsum : psum cs 15 ≤ ss.length) (hss : ss.length ≤ 1000) {r : List Bool} {B' : Nat} {v : Value} {L : List Nat}
    (hC : ∀ w' r, Fl B br bf bd off cap d most fixed w' r window ov out → Kept 5 B [br, bf] w w' → Cd w' bc 0 cs ss) (h : Fl B br bf bd off cap d most fixed w r window ov out) (own : w.ownsRow B' 3 1 v L.length (ints L)) (hB : B' ≤ w.heap.size) (hbd : bd < B') (hL : L.length ≤ 1000) {r1 : List Bool} (hs : Fo.sym cs ss r = some (18, r1)) (h2 : r1.length < 7) :
    Calls Tryz.prog 316 #[.pointer (some ⟨bf, 0, none⟩), v, .pointer (some ⟨bc, 0, none⟩)] w fun e w' => e = gaveUp 5 ∧ Kept 5 B [br, bf] w w' := by
  obtain ⟨a0, c0, rfl⟩ := own_slice own
  have HSY := hide (symbol_ok bc 0 cs ss hsum hss hC hs h)
  clear hs
  go_enter Tryz.func316, Tryz.ntmps316
  go_wp2_with fail
  refine HSY.out.mono ?_
  rintro e w1 ⟨rfl, f1, k1⟩
  have HB := hide (bits_none 7 (by omega) h2 f1)
  go_wp2_with fail
  refine HB.out.mono ?_
  rintro e w2 ⟨rfl, k2⟩
  exact ⟨rfl, rfl, k1.trans k2⟩
set_option maxRecDepth 100000 in
set_option maxHeartbeats 1000000 in
theorem ml_zeros {bc : Nat} {cs ss : List Nat} (hsum : psum cs 15 ≤ ss.length) (hss : ss.length ≤ 1000) {r : List Bool} {B' : Nat} {v : Value} {L : List Nat}
    (hC : ∀ w' r, Fl B br bf bd off cap d most fixed w' r window ov out → Kept 5 B [br, bf] w w' → Cd w' bc 0 cs ss) (h : Fl B br bf bd off cap d most fixed w r window ov out) (own : w.ownsRow B' 3 1 v L.length (ints L)) (hB : B' ≤ w.heap.size) (hbd : bd < B') (hL : L.length ≤ 1000) {r1 : List Bool} (hs : Fo.sym cs ss r = some (18, r1)) (h2 : 7 ≤ r1.length) :
    Calls Tryz.prog 316 #[.pointer (some ⟨bf, 0, none⟩), v, .pointer (some ⟨bc, 0, none⟩)] w fun e w' => ∃ v', e = .returned v' ∧ w'.ownsRow B' 3 1 v' (L.length + (11 + Fo.val (r1.take 7))) (ints (L ++ List.replicate (11 + Fo.val (r1.take 7)) 0)) ∧ Fl B br bf bd off cap d most fixed w' (r1.drop 7) window ov out ∧ ∃ wm, Kept 5 B [br, bf] w wm ∧ Kept 3 B' [] wm w' := by
  obtain ⟨a0, c0, rfl⟩ := own_slice own
  have HSY := hide (symbol_ok bc 0 cs ss hsum hss hC hs h)
  clear hs
  obtain ⟨i0, hi, hz0, hz1, hz2⟩ := info_parts Tryz.infoInt
  have hv4 : Fo.val (r1.take 7) < 128 := by
    have := Fo.val_lt (r1.take 7)
    rw [List.length_take, Nat.min_eq_left h2] at this
    exact this
  obtain ⟨V, hV⟩ : ∃ V, Fo.val (r1.take 7) = V := ⟨_, rfl⟩
  rw [hV] at hv4 ⊢
  obtain ⟨T, hT⟩ : ∃ T, 11 + V = T := ⟨_, rfl⟩
  rw [hT]
  have OWN := hide own
  clear own
  go_enter Tryz.func316, Tryz.ntmps316
  go_wp2_with fail
  refine HSY.out.mono ?_
  rintro e w1 ⟨rfl, f1, k1⟩
  have OW1 := hide (ownI_keptF OWN.out h k1)
  have HB := hide (bits_ok 7 (by omega) h2 f1)
  rw [hV] at HB
  have HC2 : Hid (∀ w2, Kept 5 B [br, bf] w1 w2 → w2.ownsRow B' 3 1 (.slice a0 L.length c0) L.length (ints L)) := fun w2 k => ownI_keptF OW1.out f1 k
  have hW1 : B' ≤ w1.heap.size := Nat.le_trans hB k1.size
  have K1 := hide k1
  have HTT := hide hT
  clear h f1 k1 HSY hC OWN OW1 hV hT
  go_wp2_with fail
  refine HB.out.mono ?_
  rintro e W ⟨rfl, f2, k2⟩
  have OWW := hide (HC2.out W k2)
  have KW := hide (K1.out.trans k2)
  have HEND := hide (ml_end (L := L) (X := 0) (T := T) f2 KW.out hbd)
  have hW : B' ≤ W.heap.size := Nat.le_trans hW1 k2.size
  have hT1 : T ≤ 300 := by have := HTT.out; omega
  clear f2 k2
  go_wp2
  rw [show (11 : Int) + (V : Int) = (T : Nat) by have := HTT.out; omega]
  clear HTT
  go_loopw [1, 49] (fun vl vi wr => ∃ j : Nat, j ≤ T ∧ vi = .int .i64 j ∧ wr.ownsRow B' 3 1 vl (L.length + j) (ints (L ++ List.replicate j 0)) ∧ Kept 3 B' [] W wr) (fun _ vi _ => T - (intOf vi).toNat)
  case atStart => exact ⟨0, Nat.zero_le _, rfl, by simpa using OWW.out, Kept.refl _ _ _ _⟩
  clear OWW
  case round =>
    obtain ⟨j, hj, rfl, ow, kk⟩ := hrel
    have hsz := kk.size
    obtain ⟨a0, c0, rfl⟩ := own_slice ow
    have OW := hide ow
    have KK := hide kk
    clear ow kk
    by_cases cj : j < T
    · have cj' : (j : Int) < T := by omega
      go_wp2_with (at_builtin; refine wpList_append_own _ rfl (.tmp 51) (.tmp 53) 52 rfl B' 3 i0 (.int .i64 0) 1 8 Tryz.underlying52 hi hz0 hz1 hz2 rfl (by decide) (.slice a0 (L.length + j) c0) (L.length + j) _ rfl (OW.out.alloc _) ⟨wr.heap.size, 0, none⟩ 1 1 [.int .i64 0] rfl rfl ?hnews ?hone ?h63 ?hby ?hbs ?_)
      case hnews => exact newsI1
      case hone => intro u hu; simp at hu; subst hu; rfl
      case h63 => unfold maxLen; omega
      case hby => omega
      case hbs => simp; omega
      intro v2 w2 own2 hg2 _
      have K2 := hide ((KK.out.alloc _).grown hg2 (own_row (OW.out.alloc _)))
      have hex : ints (L ++ List.replicate j 0) ++ [.int .i64 0] = ints (L ++ List.replicate (j + 1) 0) := by
        rw [List.replicate_succ', ← List.append_assoc]
        simp [ints]
      rw [hex] at own2
      have O2 := hide own2
      obtain ⟨a2, c2, hv2⟩ := own_slice own2
      subst hv2
      clear own2 hg2 hex
      go_wp2
      go_roundw
      case rel => exact ⟨j + 1, by omega, by go_num, O2.out, K2.out⟩
      case measure => simp [intOf]; omega
    · obtain rfl : j = T := by omega
      have cj' : ¬ (j : Int) < j := by omega
      go_wp2
      go_ret
      exact HEND.out _ _ OW.out KK.out
/-- What one symbol of the lengths has come to. -/
def MRes (B br bf bd off cap : Nat) (d : List Nat) (most : Nat) (fixed : List Value) (window : Nat) (ov : Value) (out : List Nat) (B' : Nat) (w : World) (res : Option (List Bool × List Nat)) (e : Ending) (w' : World) : Prop := match res with
  | some (r', L') => ∃ v', e = .returned v' ∧ w'.ownsRow B' 3 1 v' L'.length (ints L') ∧ Fl B br bf bd off cap d most fixed w' r' window ov out ∧ ∃ wm, Kept 5 B [br, bf] w wm ∧ Kept 3 B' [] wm w'
  | none => e = gaveUp 5 ∧ Kept 5 B [br, bf] w w'
theorem more_any {bc : Nat} {cs ss : List Nat} (hsum : psum cs 15 ≤ ss.length) (hss : ss.length ≤ 1000) {r : List Bool} {B' : Nat} {v : Value} {L : List Nat}
    (hC : ∀ w' r, Fl B br bf bd off cap d most fixed w' r window ov out → Kept 5 B [br, bf] w w' → Cd w' bc 0 cs ss) (h : Fl B br bf bd off cap d most fixed w r window ov out) (own : w.ownsRow B' 3 1 v L.length (ints L)) (hB : B' ≤ w.heap.size) (hbd : bd < B') (hL : L.length ≤ 1000) (h18 : ∀ s r1, Fo.sym cs ss r = some (s, r1) → s ≤ 18) {res : Option (List Bool × List Nat)} (hres : Fo.lensStep cs ss r L = res) :
    Calls Tryz.prog 316 #[.pointer (some ⟨bf, 0, none⟩), v, .pointer (some ⟨bc, 0, none⟩)] w (MRes B br bf bd off cap d most fixed window ov out B' w res) := by
  unfold Fo.lensStep at hres
  cases hs : Fo.sym cs ss r with
  | none =>
    rw [hs] at hres
    subst hres
    exact ml_none hsum hss hC h own hB hbd hL hs
  | some x =>
    obtain ⟨s, r1⟩ := x
    have hs18 := h18 s r1 hs
    rw [hs] at hres
    simp only [] at hres
    by_cases c1 : s < 16
    · rw [if_pos c1] at hres
      subst hres
      refine (ml_lit hsum hss hC h own hB hbd hL hs c1).mono ?_
      rintro e w' ⟨v', rfl, o, f, k⟩
      exact ⟨v', rfl, by simpa using o, f, k⟩
    rw [if_neg c1] at hres
    by_cases c2 : s = 16
    · subst c2
      by_cases c3 : L.length = 0
      · rw [if_pos ⟨rfl, c3⟩] at hres
        subst hres
        exact ml_ahead0 hsum hss hC h own hB hbd hL hs c3
      · rw [if_neg (fun h => c3 h.2), if_pos rfl] at hres
        by_cases c4 : 2 ≤ r1.length
        · rw [if_pos c4] at hres
          subst hres
          refine (ml_ahead hsum hss hC h own hB hbd hL hs (by omega) c4).mono ?_
          rintro e w' ⟨v', rfl, o, f, k⟩
          exact ⟨v', rfl, by rw [List.length_append, List.length_replicate]; exact o, f, k⟩
        · rw [if_neg c4] at hres
          subst hres
          exact ml_ahead_none hsum hss hC h own hB hbd hL hs (by omega) (by omega)
    rw [if_neg (fun h => c2 h.1), if_neg c2] at hres
    by_cases c3 : s = 17
    · subst c3
      rw [if_pos rfl] at hres
      by_cases c4 : 3 ≤ r1.length
      · rw [if_pos c4] at hres
        subst hres
        refine (ml_zero hsum hss hC h own hB hbd hL hs c4).mono ?_
        rintro e w' ⟨v', rfl, o, f, k⟩
        exact ⟨v', rfl, by rw [List.length_append, List.length_replicate]; exact o, f, k⟩
      · rw [if_neg c4] at hres
        subst hres
        exact ml_zero_none hsum hss hC h own hB hbd hL hs (by omega)
    rw [if_neg c3] at hres
    obtain rfl : s = 18 := by omega
    by_cases c4 : 7 ≤ r1.length
    · rw [if_pos c4] at hres
      subst hres
      refine (ml_zeros hsum hss hC h own hB hbd hL hs c4).mono ?_
      rintro e w' ⟨v', rfl, o, f, k⟩
      exact ⟨v', rfl, by rw [List.length_append, List.length_replicate]; exact o, f, k⟩
    · rw [if_neg c4] at hres
      subst hres
      exact ml_zeros_none hsum hss hC h own hB hbd hL hs (by omega)
end Go.Proofs.YtgkljcmjnphpeaaGreatDoor
