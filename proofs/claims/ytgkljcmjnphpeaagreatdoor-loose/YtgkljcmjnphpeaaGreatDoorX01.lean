/- Loose: white and comments say nothing (package foliokeep). -/
import Derived.Test.YtgkljcmjnphpeaaGreatDoorX00
import Derived.Test.YtgkljcmjnphpeaaGreatDoorRows
import Derived.Test.YtgkljcmjnphpeaaGreatDoorCards
import Derived.ProofKit
import Derived.Stop.Joined
import Derived.SevenTiedAt
import Derived.Deep.CutRange
import Derived.Deep.RegionWith
set_option linter.unusedVariables false
set_option linter.unusedSimpArgs false
namespace Go.Proofs.YtgkljcmjnphpeaaGreatDoor
open Go.RowKit
variable {w w' w0 : World}
set_option maxRecDepth 100000 in
set_option maxHeartbeats 8000000 in
theorem loose_rest (hb : Below w0.heap.size w0 w) (HE : Hid (Env w.heap.size w)) {ra : Option Addr} {rl rcap : Nat} {wh kk : Int} (hk1 : -9223372036854775808 ≤ kk) (hk2 : kk ≤ 9223372036854775807) {b0 b5 n : Nat} {G : List Nat} (hn2 : 2 ≤ n) (hn6 : n ≤ 6) (HG : Hid (Fo.Gap G ∧ G.length ≤ 60 ∧ Fo.Small G)) (Z0 : Hid (w.heap[b0]? = some (.cells lcells 9 (0, 0)))) (HWT : Hid (Vals (fun _ => True) 12 0 Fo.lvals w (.slice (some ⟨b5, 0, none⟩) 6 6))) (t20 t21 t22 t23 t24 t25 t26 t27 t28 t29 t30 t31 t32 t33 t34 t35 t36 t37 t38 t39 t40 t41 t42 t43 t44 t45 t46 t47 t48 t49 : Value) :
    Code.wp Tryz.prog (restK 7 (Tryz.f9.body.getD .skip)) (bodyPost Tryz.prog Tryz.f9 fun e w' => e = .returned (.bool true) ∧ Below w0.heap.size w0 w') { tmps := #[.slice ra rl rcap, .int .i64 wh, .int .i64 kk, undef, undef, undef, .bool false, .bool true, .slice (some ⟨b0, 0, none⟩) 6 6, .int .i64 (n : Int), .slice (some ⟨b5, 0, none⟩) 6 6, .string (strN G), undef, undef, undef, undef, undef, undef, undef, undef, t20, t21, t22, t23, t24, t25, t26, t27, t28, t29, t30, t31, t32, t33, t34, t35, t36, t37, t38, t39, t40, t41, t42, t43, t44, t45, t46, t47, t48, t49, undef, undef, undef, undef, undef, undef, undef, undef, undef, undef, undef, undef, undef, undef, undef, undef, undef, undef, undef, undef, undef, undef, undef, undef, undef, undef, undef, undef, undef, undef, undef, undef, undef, undef, undef, undef, undef, undef, undef, undef, undef, undef, undef, undef, undef, undef, undef, undef, undef, undef, undef, undef, undef, undef, undef, undef, undef, undef, undef, undef, undef, undef, undef, undef, undef], defers := [] } w := by
  have HB0 := hide hb
  have HMD : Hid (∀ (W : World) (m : Nat) (off k : Int), Below w.heap.size w W → m ≤ 6 → -1 ≤ off → off ≤ 1 → -1 ≤ k → k ≤ 100 → Calls Tryz.prog 29 #[.slice (some ⟨b0, 0, none⟩) m 6, .string (strN G), .int .i64 off, .int .i64 k] W fun e w' => e = .returned (.string (strN (Fo.made (Fo.ltexts.take m) G off k))) ∧ Below W.heap.size W w') := fun W m off k b hm h1 h2 h3 h4 => by
    have hl := Fo.llen hm
    have := made_ok (w := W) (b := b0) (cap := 6) (texts := Fo.ltexts.take m) (G := G) (off := off) (k := k) (Nat.lt_of_lt_of_le (lt_of_block Z0.out) b.size) (fun i x hx => by
      have hi : Fo.ltexts[i]? = some x := by
        rw [List.getElem?_take] at hx
        by_cases h : i < m
        · rw [if_pos h] at hx; exact hx
        · rw [if_neg h] at hx; cases hx
      rw [cell_blk (show W.heap[b0]? = some (.cells lcells 9 (0, 0)) by rw [b.block b0 (lt_of_block Z0.out)]; exact Z0.out)]
      exact lcells_at i x hi) (Fo.ltexts_len m) (by rw [hl]; exact hm) (by rw [hl]; exact hm) (by have := HG.out.2.1; omega) ⟨h1, h2⟩ ⟨h3, h4⟩
    rw [hl] at this
    exact this
  have HFR : Hid (∀ (W : World) (m : Nat) (off k : Int), Below w.heap.size w W → m ≤ 6 → ∃ cap W' fl, (convert 9 23 (.string (strN (Fo.made (Fo.ltexts.take m) G off k)))).run Tryz.prog W = .ok (.slice (some ⟨W.heap.size, 0, none⟩) fl cap) W' ∧ Below W.heap.size W W' ∧ ∀ Y, Below W'.heap.size W' Y → (∀ z, Fo.document (Fo.made (Fo.ltexts.take m) G off k) = some z → ∀ x ∈ z.1, kindOf x.1 ≠ 8) → Calls Tryz.prog 25 #[.slice (some ⟨W.heap.size, 0, none⟩) fl cap, .int .i64 0] Y (ReadRes Y (Fo.readPlain (Fo.made (Fo.ltexts.take m) G off k)))) := fun W m off k b hm => by
    have hsm := Fo.made_small off k HG.out.2.2 (Fo.ltexts_small m)
    have hln := Fo.made_len (texts := Fo.ltexts.take m) off k (show G.length ≤ 100 by have := HG.out.2.1; omega) (by rw [Fo.llen hm]; exact hm) (Fo.ltexts_len m)
    obtain ⟨cap, W', h1, h2, h3, h4, h5, h6⟩ := conv_bytes _ hsm (by omega) W
    refine ⟨cap, W', _, h3, h4, fun Y bY hns => ?_⟩
    exact read_ok (w := Y) (most := 0) (by omega) (((HE.out.up (Nat.le_refl _) b).up (Nat.le_refl _) h4).up (Nat.le_refl _) bY) (h5.up (Nat.le_refl _) bY) (fun i hi => by
      have := hsm _ (List.getElem_mem hi)
      simpa [nth, List.getElem?_eq_getElem hi] using this) (by omega) ⟨h1, h2⟩ ⟨_, _, rfl, Nat.lt_of_lt_of_le h6 bY.size⟩ hns
  have HNS : Hid (∀ m, m ≤ 6 → ∀ z, Fo.document (Fo.made (Fo.ltexts.take m) G 0 (-1)) = some z → ∀ x ∈ z.1, kindOf x.1 ≠ 8) := fun m hm z hz x hx => by
    rw [Fo.loose_doc HG.out.1 (by have := HG.out.2.1; omega) hm] at hz
    cases hz
    obtain ⟨V, hV, rfl⟩ := List.mem_map.1 hx
    exact Fo.lkinds V (List.mem_of_mem_take hV)
  have HRD : Hid (∀ m, m ≤ 6 → Fo.readPlain (Fo.made (Fo.ltexts.take m) G 0 (-1)) = if 2 ≤ m then some (Fo.lvals.take m, 1) else none) := fun m hm => Fo.loose_read HG.out.1 (by have := HG.out.2.1; omega) hm
  have HWR : Hid (∀ (off k : Int), off = 1 ∨ off = -1 → 0 ≤ k → k < (n : Int) → Fo.document (Fo.made (Fo.ltexts.take n) G off k) = none) := fun off k h1 h2 h3 => Fo.loose_wrong HG.out.1 (by have := HG.out.2.1; omega) hn6 h1 h2 h3
  clear hb
  have hni : (n : Int) ≤ 6 := by omega
  generalize strN G = gs at *
  conv => arg 2; simp only [Tryz.f9, Option.getD_some, restK]
  go_wp2_with fail
  refine (HMD.out w n 0 (-1) (Below.refl _ _) hn6 (by omega) (by omega) (by omega) (by omega)).mono ?_
  rintro e w1 ⟨rfl, b1⟩
  obtain ⟨c1, w2, f1, hf1, b2, hrd1⟩ := HFR.out w1 n 0 (-1) b1 hn6
  have HR1 := hide (hrd1 w2 (Below.refl _ _) (HNS.out n hn6))
  rw [HRD.out n hn6, if_pos hn2] at HR1
  have B2 : Hid (Below w.heap.size w w2) := b1.trans (b2.mono b1.size)
  clear b1 b2 hrd1
  generalize strN (Fo.made (Fo.ltexts.take n) G 0 (-1)) = fs1 at *
  go_wp2_with fail
  refine HR1.out.mono ?_
  rintro e w3 ⟨b3, ov, rfl, hv⟩
  have B3 : Hid (Below w.heap.size w w3) := B2.out.trans (b3.mono B2.out.size)
  have hVl := hv.len
  rw [show (Fo.lvals.take n).length = n by rw [List.length_take]; exact Nat.min_eq_left hn6] at hVl
  obtain ⟨oa, oc, rfl⟩ := hVl
  have HV := hide hv
  clear b3 hv HR1 hf1 B2
  have hx4 : (w3.alloc (.cells #[.slice oa n oc, .int .i64 1] 31)).heap[w3.heap.size]? = some (.cells #[.slice oa n oc, .int .i64 1] 31 (0, 0)) := blk_new _ _
  have b4 : Below w3.heap.size w3 (w3.alloc (.cells #[.slice oa n oc, .int .i64 1] 31)) := (Below.refl _ _).alloc (Nat.le_refl _) _
  have HAL := hide (fun W (b : Below w3.heap.size w3 W) => alike_yes (root := 1) (HV.out.keep b) ((HWT.out.take hn6 (by omega)).keep (B3.out.trans (b.mono B3.out.size))) (fun y hy => lkeys y (List.mem_of_mem_take hy)))
  go_upto_region 8 with fail
  generalize w3.alloc (.cells #[.slice oa n oc, .int .i64 1] 31) = w4 at hx4 b4 ⊢
  have B4 : Hid (Below w.heap.size w w4) := B3.out.trans (b4.mono B3.out.size)
  have d0 : w4.cell? ⟨w3.heap.size, 0, none⟩ = some (.slice oa n oc) := by rw [cell_blk hx4]; rfl
  have d1 : w4.cell? ⟨w3.heap.size, 1, none⟩ = some (.int .i64 1) := by rw [cell_blk hx4]; rfl
  have HAL4 := hide (HAL.out w4.drew b4.drew)
  have D0 := hide d0
  have D1 := hide d1
  clear hx4 b4 HAL HV B3 d0 d1
  refine wp_region_T (fun _ W => W.cell? ⟨w3.heap.size, 0, none⟩ = some (.slice oa n oc) ∧ W.cell? ⟨w3.heap.size, 1, none⟩ = some (.int .i64 1)) (by kernel_rfl) ?_
  intro hD
  have hS : w4.drew.cell? ⟨w3.heap.size, 0, none⟩ = some (.slice oa n oc) ∧ w4.drew.cell? ⟨w3.heap.size, 1, none⟩ = some (.int .i64 1) := ⟨D0.out, D1.out⟩
  refine wpAnyT_take (i := 0) (v := ?_) rfl (by kernel_rfl) (by kernel_rfl) (by kernel_rfl) (fun _ _ _ h => h) (fun _ _ h => h) (fun _ _ h => h) hD (Or.inl ⟨by rfl, ?_⟩) hS ?_
  rotate_left
  · intro W hW; obtain ⟨_, _, _, q0, q1⟩ := hW; go_simp; try (with_reducible rfl)
  clear hD hS; intro hD hS; (try simp only [Act.put, List.setIfInBounds_toArray, List.set_cons_zero, List.set_cons_succ, List.getElem_toArray, List.getElem_cons_succ, List.getElem_cons_zero])
  refine wpAnyT_take (i := 1) (v := ?_) rfl (by kernel_rfl) (by kernel_rfl) (by kernel_rfl) (fun _ _ _ h => h) (fun _ _ h => h) (fun _ _ h => h) hD (Or.inl ⟨by rfl, ?_⟩) hS ?_
  rotate_left
  · intro W hW; go_simp; try (with_reducible rfl)
  clear hD hS; intro hD hS; (try simp only [Act.put, List.setIfInBounds_toArray, List.set_cons_zero, List.set_cons_succ, List.getElem_toArray, List.getElem_cons_succ, List.getElem_cons_zero])
  refine wpAnyT_take (i := 2) (v := ?_) rfl (by kernel_rfl) (by kernel_rfl) (by kernel_rfl) (fun _ _ _ h => h) (fun _ _ h => h) (fun _ _ h => h) hD (Or.inl ⟨by rfl, ?_⟩) hS ?_
  rotate_left
  · intro W hW; go_simp; try (with_reducible rfl)
  clear hD hS; intro hD hS; (try simp only [Act.put, List.setIfInBounds_toArray, List.set_cons_zero, List.set_cons_succ, List.getElem_toArray, List.getElem_cons_succ, List.getElem_cons_zero])
  refine wpAnyT_take (i := 3) (v := ?_) rfl (by kernel_rfl) (by kernel_rfl) (by kernel_rfl) (fun _ _ _ h => h) (fun _ _ h => h) (fun _ _ h => h) hD (Or.inl ⟨by rfl, ?_⟩) hS ?_
  rotate_left
  · intro W hW; go_simp; try (with_reducible rfl)
  clear hD hS; intro hD hS; (try simp only [Act.put, List.setIfInBounds_toArray, List.set_cons_zero, List.set_cons_succ, List.getElem_toArray, List.getElem_cons_succ, List.getElem_cons_zero])
  refine wpAnyT_take (i := 4) (v := ?_) rfl (by kernel_rfl) (by kernel_rfl) (by kernel_rfl) (fun _ _ _ h => h) (fun _ _ h => h) (fun _ _ h => h) hD (Or.inl ⟨by rfl, ?_⟩) hS ?_
  rotate_left
  · intro W hW; go_simp; try (with_reducible rfl)
  clear hD hS; intro hD hS; (try simp only [Act.put, List.setIfInBounds_toArray, List.set_cons_zero, List.set_cons_succ, List.getElem_toArray, List.getElem_cons_succ, List.getElem_cons_zero])
  refine wpAnyT_one (i := 5) (by kernel_rfl) rfl hD (fun K' hK => ?_)
  go_simp
  refine HAL4.out.mono ?_
  rintro e w5 ⟨rfl, b5⟩
  have B5 : Hid (Below w.heap.size w w5) := B4.out.drew.trans (b5.mono (by simpa using B4.out.size))
  have hS5 : w5.cell? ⟨w3.heap.size, 0, none⟩ = some (.slice oa n oc) ∧ w5.cell? ⟨w3.heap.size, 1, none⟩ = some (.int .i64 1) := ⟨by rw [b5.cell (World.block_lt_of_cell? w4 _ D0.out)]; exact D0.out, by rw [b5.cell (World.block_lt_of_cell? w4 _ D1.out)]; exact D1.out⟩
  clear b5 HAL4
  refine hK.out _ _ hS5 (fun hD2 hS2 => ?_)
  clear hD hS hK K'
  have hD := hD2
  have hS := hS2
  clear hD2 hS2
  (try simp only [Act.put, List.setIfInBounds_toArray, List.set_cons_zero, List.set_cons_succ, List.getElem_toArray, List.getElem_cons_succ, List.getElem_cons_zero])
  refine wpAnyT_one (i := 6) (by kernel_rfl) rfl hD (fun K' hK => ?_)
  go_simp
  refine hK.out _ _ hS5 (fun hD2 hS2 => ?_)
  clear hD hS hK K'
  have hD := hD2
  have hS := hS2
  clear hD2 hS2
  (try simp only [Act.put, List.setIfInBounds_toArray, List.set_cons_zero, List.set_cons_succ, List.getElem_toArray, List.getElem_cons_succ, List.getElem_cons_zero])
  refine wpAnyT_done (by kernel_rfl) ?_ _
  clear hD hS
  clear hS5 D0 D1 B4
  go_upto_region 9 with fail
  go_cut [15, 16] from 20 (fun _ ev wx => ev = .int .i64 4 ∧ Hid (Below w.heap.size w wx))
  case first =>
    have HPK1 := hide (fun W : World => pick_ok kk hk1 hk2 2 (by decide) (by decide) W)
    have HPK2 := hide (fun W : World => pick_ok kk hk1 hk2 n (by omega) (by omega) W)
    refine wp_region_T (fun _ _ => True) (by kernel_rfl) ?_
    intro hD
    have hS := hide (show True from trivial)
    have HB9 : Hid (Below w.heap.size w w5.drew) := B5.out.drew
    generalize w5.drew = w6 at HB9 ⊢
    clear B5
    refine wpAnyT_take (i := 0) (v := ?_) rfl (by kernel_rfl) (by kernel_rfl) (by kernel_rfl) (fun _ _ _ h => h) (fun _ _ h => h) (fun _ _ h => h) hD (Or.inl ⟨by rfl, ?_⟩) hS ?_
    rotate_left
    · intro W hW; go_simp; try (with_reducible rfl)
    clear hD hS; intro hD hS; (try simp only [Act.put, List.setIfInBounds_toArray, List.set_cons_zero, List.set_cons_succ, List.getElem_toArray, List.getElem_cons_succ, List.getElem_cons_zero])
    refine wpAnyT_take (i := 1) (v := ?_) rfl (by kernel_rfl) (by kernel_rfl) (by kernel_rfl) (fun _ _ _ h => h) (fun _ _ h => h) (fun _ _ h => h) hD (Or.inl ⟨by rfl, ?_⟩) hS ?_
    rotate_left
    · intro W hW; go_simp; try (with_reducible rfl)
    clear hD hS; intro hD hS; (try simp only [Act.put, List.setIfInBounds_toArray, List.set_cons_zero, List.set_cons_succ, List.getElem_toArray, List.getElem_cons_succ, List.getElem_cons_zero])
    refine wpAnyT_take (i := 2) (v := ?_) rfl (by kernel_rfl) (by kernel_rfl) (by kernel_rfl) (fun _ _ _ h => h) (fun _ _ h => h) (fun _ _ h => h) hD (Or.inl ⟨by rfl, ?_⟩) hS ?_
    rotate_left
    · intro W hW; go_simp; try (with_reducible rfl)
    clear hD hS; intro hD hS; (try simp only [Act.put, List.setIfInBounds_toArray, List.set_cons_zero, List.set_cons_succ, List.getElem_toArray, List.getElem_cons_succ, List.getElem_cons_zero])
    refine wpAnyT_take (i := 3) (v := ?_) rfl (by kernel_rfl) (by kernel_rfl) (by kernel_rfl) (fun _ _ _ h => h) (fun _ _ h => h) (fun _ _ h => h) hD (Or.inl ⟨by rfl, ?_⟩) hS ?_
    rotate_left
    · intro W hW; go_simp; try (with_reducible rfl)
    clear hD hS; intro hD hS; (try simp only [Act.put, List.setIfInBounds_toArray, List.set_cons_zero, List.set_cons_succ, List.getElem_toArray, List.getElem_cons_succ, List.getElem_cons_zero])
    refine wpAnyT_take (i := 4) (v := ?_) rfl (by kernel_rfl) (by kernel_rfl) (by kernel_rfl) (fun _ _ _ h => h) (fun _ _ h => h) (fun _ _ h => h) hD (Or.inl ⟨by rfl, ?_⟩) hS ?_
    rotate_left
    · intro W hW; go_simp; try (with_reducible rfl)
    clear hD hS; intro hD hS; (try simp only [Act.put, List.setIfInBounds_toArray, List.set_cons_zero, List.set_cons_succ, List.getElem_toArray, List.getElem_cons_succ, List.getElem_cons_zero])
    refine wpAnyT_take (i := 8) (v := ?_) rfl (by kernel_rfl) (by kernel_rfl) (by kernel_rfl) (fun _ _ _ h => h) (fun _ _ h => h) (fun _ _ h => h) hD (Or.inl ⟨by rfl, ?_⟩) hS ?_
    rotate_left
    · intro W hW; go_simp; try (with_reducible rfl)
    clear hD hS; intro hD hS; (try simp only [Act.put, List.setIfInBounds_toArray, List.set_cons_zero, List.set_cons_succ, List.getElem_toArray, List.getElem_cons_succ, List.getElem_cons_zero])
    refine wpAnyT_take (i := 9) (v := ?_) rfl (by kernel_rfl) (by kernel_rfl) (by kernel_rfl) (fun _ _ _ h => h) (fun _ _ h => h) (fun _ _ h => h) hD (Or.inl ⟨by rfl, ?_⟩) hS ?_
    rotate_left
    · intro W hW; go_simp; try (with_reducible rfl)
    clear hD hS; intro hD hS; (try simp only [Act.put, List.setIfInBounds_toArray, List.set_cons_zero, List.set_cons_succ, List.getElem_toArray, List.getElem_cons_succ, List.getElem_cons_zero])
    refine wpAnyT_two (i := 5) (j := 17) (by kernel_rfl) rfl rfl hD (fun K' hK => ?_) (fun K' hK => ?_)
    · go_simp
      refine (HPK1.out _).mono ?_
      rintro e wq ⟨a2, ha2, rfl, hw⟩
      have hw := hw.symm
      subst hw
      obtain ⟨off, hoff⟩ : ∃ off : Int, 1 - 2 * (a2 : Int) = off := ⟨_, rfl⟩
      have hof : off = 1 ∨ off = -1 := by omega
      have hmw : IntKind.i64.wrap (2 * (a2 : Int)) = 2 * (a2 : Int) := by rw [IntKind.wrap_i64]; omega
      have hsw : IntKind.i64.wrap off = off := by rw [IntKind.wrap_i64]; omega
      clear ha2
      refine hK.out _ _ trivial (fun hD2 hS2 => ?_)
      clear hD hS hK K'
      have hD := hD2
      have hS := hS2
      clear hD2 hS2
      (try simp only [Act.put, List.setIfInBounds_toArray, List.set_cons_zero, List.set_cons_succ, List.getElem_toArray, List.getElem_cons_succ, List.getElem_cons_zero])
      refine wpAnyT_take (i := 6) (v := ?_) rfl (by kernel_rfl) (by kernel_rfl) (by kernel_rfl) (fun _ _ _ h => h) (fun _ _ h => h) (fun _ _ h => h) hD (Or.inl ⟨by rfl, ?_⟩) hS ?_
      rotate_left
      · intro W hW; go_simp; try (with_reducible rfl)
      clear hD hS; intro hD hS; (try simp only [Act.put, List.setIfInBounds_toArray, List.set_cons_zero, List.set_cons_succ, List.getElem_toArray, List.getElem_cons_succ, List.getElem_cons_zero])
      refine wpAnyT_take (i := 7) (v := ?_) rfl (by kernel_rfl) (by kernel_rfl) (by kernel_rfl) (fun _ _ _ h => h) (fun _ _ h => h) (fun _ _ h => h) hD (Or.inl ⟨by rfl, ?_⟩) hS ?_
      rotate_left
      · intro W hW; go_simp; try (with_reducible rfl)
      clear hD hS; intro hD hS; (try simp only [Act.put, List.setIfInBounds_toArray, List.set_cons_zero, List.set_cons_succ, List.getElem_toArray, List.getElem_cons_succ, List.getElem_cons_zero])
      clear hmw hsw hoff
      refine wpAnyT_two (i := 10) (j := 17) (by kernel_rfl) rfl rfl hD (fun K' hK => ?_) (fun K' hK => ?_)
      · go_simp
        refine (HPK2.out _).mono ?_
        rintro e wq ⟨a3, ha3, rfl, hw⟩
        have hw := hw.symm
        subst hw
        refine hK.out _ _ trivial (fun hD2 hS2 => ?_)
        clear hD hS hK K'
        have hD := hD2
        have hS := hS2
        clear hD2 hS2
        (try simp only [Act.put, List.setIfInBounds_toArray, List.set_cons_zero, List.set_cons_succ, List.getElem_toArray, List.getElem_cons_succ, List.getElem_cons_zero])
        refine wpAnyT_two (i := 11) (j := 17) (by kernel_rfl) rfl rfl hD (fun K' hK => ?_) (fun K' hK => ?_)
        · go_simp
          refine (HMD.out _ n off (a3 : Int) HB9.out hn6 (by omega) (by omega) (by omega) (by omega)).mono ?_
          rintro e wm1 ⟨rfl, b⟩
          have Hm1 : Hid (Below w.heap.size w wm1) := HB9.out.trans (b.mono HB9.out.size)
          clear b
          have hdn := HWR.out off (a3 : Int) hof (by omega) (by omega)
          have hrn : Fo.readPlain (Fo.made (Fo.ltexts.take n) G off (a3 : Int)) = none := by unfold Fo.readPlain; rw [hdn]
          have HFZ : Hid (∀ W, Below w.heap.size w W → ∃ cap W' fl, (convert 9 23 (.string (strN (Fo.made (Fo.ltexts.take n) G off (a3 : Int))))).run Tryz.prog W = .ok (.slice (some ⟨W.heap.size, 0, none⟩) fl cap) W' ∧ Below W.heap.size W W' ∧ ∀ Y, Below W'.heap.size W' Y → Calls Tryz.prog 25 #[.slice (some ⟨W.heap.size, 0, none⟩) fl cap, .int .i64 0] Y (ReadRes Y none)) := fun W bW => by
            obtain ⟨c2, w7, f2, hf2, b7, hrd2⟩ := HFR.out W n off (a3 : Int) bW hn6
            refine ⟨c2, w7, f2, hf2, b7, fun Y bY => ?_⟩
            have := hrd2 Y bY (fun z hz => by rw [hdn] at hz; cases hz)
            rw [hrn] at this
            exact this
          generalize strN (Fo.made (Fo.ltexts.take n) G off (a3 : Int)) = fs2 at HFZ ⊢
          clear hdn hrn
          refine hK.out _ _ trivial (fun hD2 hS2 => ?_)
          clear hD hS hK K'
          have hD := hD2
          have hS := hS2
          clear hD2 hS2
          (try simp only [Act.put, List.setIfInBounds_toArray, List.set_cons_zero, List.set_cons_succ, List.getElem_toArray, List.getElem_cons_succ, List.getElem_cons_zero])
          refine wpAnyT_two (i := 12) (j := 17) (by kernel_rfl) rfl rfl hD (fun K' hK => ?_) (fun K' hK => ?_)
          · go_simp
            obtain ⟨c2, wc2, f2, hf2, b7, hrd2⟩ := HFZ.out wm1 Hm1.out
            have hf3 : (convert 9 23 (.string fs2)).run Tryz.prog wm1 = .ok (.slice (some ⟨wm1.heap.size, 0, none⟩) f2 c2) wc2 := hf2
            have HRD2 := hide hrd2
            have Hc2 : Hid (Below w.heap.size w wc2) := Hm1.out.trans (b7.mono Hm1.out.size)
            clear b7 hrd2 HFZ
            go_simp
            refine hK.out _ _ trivial (fun hD2 hS2 => ?_)
            clear hD hS hK K'
            have hD := hD2
            have hS := hS2
            clear hD2 hS2
            (try simp only [Act.put, List.setIfInBounds_toArray, List.set_cons_zero, List.set_cons_succ, List.getElem_toArray, List.getElem_cons_succ, List.getElem_cons_zero])
            clear hf2 hf3
            refine wpAnyT_two (i := 13) (j := 17) (by kernel_rfl) rfl rfl hD (fun K' hK => ?_) (fun K' hK => ?_)
            · go_simp
              refine (HRD2.out _ (Below.refl _ _)).mono ?_
              rintro e wr3 ⟨b, rfl⟩
              have Hr3 : Hid (Below w.heap.size w wr3) := Hc2.out.trans (b.mono Hc2.out.size)
              clear b HRD2
              refine hK.out _ _ trivial (fun hD2 hS2 => ?_)
              clear hD hS hK K'
              have hD := hD2
              have hS := hS2
              clear hD2 hS2
              (try simp only [Act.put, List.setIfInBounds_toArray, List.set_cons_zero, List.set_cons_succ, List.getElem_toArray, List.getElem_cons_succ, List.getElem_cons_zero])
              refine wpAnyT_take (i := 14) (v := ?_) rfl (by kernel_rfl) (by kernel_rfl) (by kernel_rfl) (fun _ _ _ h => h) (fun _ _ h => h) (fun _ _ h => h) hD (Or.inl ⟨by rfl, ?_⟩) hS ?_
              rotate_left
              · intro W hW; go_simp; try (with_reducible rfl)
              clear hD hS; intro hD hS; (try simp only [Act.put, List.setIfInBounds_toArray, List.set_cons_zero, List.set_cons_succ, List.getElem_toArray, List.getElem_cons_succ, List.getElem_cons_zero])
              refine wpAnyT_take (i := 15) (v := ?_) rfl (by kernel_rfl) (by kernel_rfl) (by kernel_rfl) (fun _ _ _ h => h) (fun _ _ h => h) (fun _ _ h => h) hD (Or.inl ⟨by rfl, ?_⟩) hS ?_
              rotate_left
              · intro W hW; go_simp; try (with_reducible rfl)
              clear hD hS; intro hD hS; (try simp only [Act.put, List.setIfInBounds_toArray, List.set_cons_zero, List.set_cons_succ, List.getElem_toArray, List.getElem_cons_succ, List.getElem_cons_zero])
              refine wpAnyT_take (i := 16) (v := ?_) rfl (by kernel_rfl) (by kernel_rfl) (by kernel_rfl) (fun _ _ _ h => h) (fun _ _ h => h) (fun _ _ h => h) hD (Or.inl ⟨by rfl, ?_⟩) hS ?_
              rotate_left
              · intro W hW; go_simp; try (with_reducible rfl)
              clear hD hS; intro hD hS; (try simp only [Act.put, List.setIfInBounds_toArray, List.set_cons_zero, List.set_cons_succ, List.getElem_toArray, List.getElem_cons_succ, List.getElem_cons_zero])
              refine wpAnyT_one (i := 17) (by kernel_rfl) rfl hD (fun K' hK => ?_)
              go_simp
              have HAx4 : Hid (Below w.heap.size w (wr3.alloc (.cells #[.slice none 0 0, .int .i64 0] 31))) := Hr3.out.alloc Hr3.out.size _
              have HQx4 : Hid ((wr3.alloc (.cells #[.slice none 0 0, .int .i64 0] 31)).heap[wr3.heap.size]? = some (.cells #[.slice none 0 0, .int .i64 0] 31 (0, 0)) ∧ w.heap.size ≤ wr3.heap.size) := ⟨blk_new _ _, Hr3.out.size⟩
              generalize wr3.alloc (.cells #[.slice none 0 0, .int .i64 0] 31) = wax4 at HAx4 HQx4 ⊢
              generalize hpb : wr3.heap.size = pbx4 at HQx4 ⊢
              clear hpb
              refine hK.out _ _ trivial (fun hD2 hS2 => ?_)
              clear hD hS hK K'
              have hD := hD2
              have hS := hS2
              clear hD2 hS2
              (try simp only [Act.put, List.setIfInBounds_toArray, List.set_cons_zero, List.set_cons_succ, List.getElem_toArray, List.getElem_cons_succ, List.getElem_cons_zero])
              have y0 : wax4.cell? ⟨pbx4, 0, none⟩ = some (.slice none 0 0) := by rw [cell_blk HQx4.out.1]; rfl
              have y1 : wax4.cell? ⟨pbx4, 1, none⟩ = some (.int .i64 0) := by rw [cell_blk HQx4.out.1]; rfl
              have g0 : wax4.frozen? ⟨pbx4, 0, none⟩ = false := free_blk HQx4.out.1
              have g1 : wax4.frozen? ⟨pbx4, 1, none⟩ = false := free_blk HQx4.out.1
              refine wpAnyT_one (i := 18) (by kernel_rfl) rfl hD (fun K' hK => ?_)
              go_simp
              have HZ9 : Hid (Below w.heap.size w ((wax4.setCell ⟨pbx4, 0, none⟩ (.slice none 0 0)).setCell ⟨pbx4, 1, none⟩ (.int .i64 0))) := (HAx4.out.setCell HQx4.out.2 _).setCell HQx4.out.2 _
              refine hK.out _ _ trivial (fun hD2 hS2 => ?_)
              clear hD hS hK K'
              have hD := hD2
              have hS := hS2
              clear hD2 hS2
              (try simp only [Act.put, List.setIfInBounds_toArray, List.set_cons_zero, List.set_cons_succ, List.getElem_toArray, List.getElem_cons_succ, List.getElem_cons_zero])
              refine wpAnyT_one (i := 19) (by kernel_rfl) rfl hD (fun K' hK => ?_)
              go_simp
              refine hK.out _ _ trivial (fun hD2 hS2 => ?_)
              clear hD hS hK K'
              have hD := hD2
              have hS := hS2
              clear hD2 hS2
              (try simp only [Act.put, List.setIfInBounds_toArray, List.set_cons_zero, List.set_cons_succ, List.getElem_toArray, List.getElem_cons_succ, List.getElem_cons_zero])
              refine wpAnyT_done (by kernel_rfl) ?_ _
              clear hD hS
              go_wp2
              go_meet
              case rel => exact ⟨rfl, HZ9.out⟩
            · go_simp
              have HAx5 : Hid (Below w.heap.size w (wc2.alloc (.cells #[.slice none 0 0, .int .i64 0] 31))) := Hc2.out.alloc Hc2.out.size _
              have HQx5 : Hid ((wc2.alloc (.cells #[.slice none 0 0, .int .i64 0] 31)).heap[wc2.heap.size]? = some (.cells #[.slice none 0 0, .int .i64 0] 31 (0, 0)) ∧ w.heap.size ≤ wc2.heap.size) := ⟨blk_new _ _, Hc2.out.size⟩
              have HAB : Hid (Below wc2.heap.size wc2 (wc2.alloc (.cells #[.slice none 0 0, .int .i64 0] 31))) := (Below.refl _ _).alloc (Nat.le_refl _) _
              generalize wc2.alloc (.cells #[.slice none 0 0, .int .i64 0] 31) = wax5 at HAx5 HQx5 HAB ⊢
              generalize hpb : wc2.heap.size = pbx5 at HQx5 ⊢
              clear hpb
              refine hK.out _ _ trivial (fun hD2 hS2 => ?_)
              clear hD hS hK K'
              have hD := hD2
              have hS := hS2
              clear hD2 hS2
              (try simp only [Act.put, List.setIfInBounds_toArray, List.set_cons_zero, List.set_cons_succ, List.getElem_toArray, List.getElem_cons_succ, List.getElem_cons_zero])
              refine wpAnyT_one (i := 13) (by kernel_rfl) rfl hD (fun K' hK => ?_)
              go_simp
              refine (HRD2.out _ HAB.out).mono ?_
              rintro e wr6 ⟨b, rfl⟩
              have Hr6 : Hid (Below w.heap.size w wr6) := HAx5.out.trans (b.mono HAx5.out.size)
              have HQ7 : Hid (wr6.heap[pbx5]? = some (.cells #[.slice none 0 0, .int .i64 0] 31 (0, 0)) ∧ w.heap.size ≤ pbx5) := ⟨by rw [b.block _ (lt_of_block HQx5.out.1)]; exact HQx5.out.1, HQx5.out.2⟩
              clear b HRD2
              refine hK.out _ _ trivial (fun hD2 hS2 => ?_)
              clear hD hS hK K'
              have hD := hD2
              have hS := hS2
              clear hD2 hS2
              (try simp only [Act.put, List.setIfInBounds_toArray, List.set_cons_zero, List.set_cons_succ, List.getElem_toArray, List.getElem_cons_succ, List.getElem_cons_zero])
              refine wpAnyT_take (i := 14) (v := ?_) rfl (by kernel_rfl) (by kernel_rfl) (by kernel_rfl) (fun _ _ _ h => h) (fun _ _ h => h) (fun _ _ h => h) hD (Or.inl ⟨by rfl, ?_⟩) hS ?_
              rotate_left
              · intro W hW; go_simp; try (with_reducible rfl)
              clear hD hS; intro hD hS; (try simp only [Act.put, List.setIfInBounds_toArray, List.set_cons_zero, List.set_cons_succ, List.getElem_toArray, List.getElem_cons_succ, List.getElem_cons_zero])
              refine wpAnyT_take (i := 15) (v := ?_) rfl (by kernel_rfl) (by kernel_rfl) (by kernel_rfl) (fun _ _ _ h => h) (fun _ _ h => h) (fun _ _ h => h) hD (Or.inl ⟨by rfl, ?_⟩) hS ?_
              rotate_left
              · intro W hW; go_simp; try (with_reducible rfl)
              clear hD hS; intro hD hS; (try simp only [Act.put, List.setIfInBounds_toArray, List.set_cons_zero, List.set_cons_succ, List.getElem_toArray, List.getElem_cons_succ, List.getElem_cons_zero])
              refine wpAnyT_take (i := 16) (v := ?_) rfl (by kernel_rfl) (by kernel_rfl) (by kernel_rfl) (fun _ _ _ h => h) (fun _ _ h => h) (fun _ _ h => h) hD (Or.inl ⟨by rfl, ?_⟩) hS ?_
              rotate_left
              · intro W hW; go_simp; try (with_reducible rfl)
              clear hD hS; intro hD hS; (try simp only [Act.put, List.setIfInBounds_toArray, List.set_cons_zero, List.set_cons_succ, List.getElem_toArray, List.getElem_cons_succ, List.getElem_cons_zero])
              have y0 : wr6.cell? ⟨pbx5, 0, none⟩ = some (.slice none 0 0) := by rw [cell_blk HQ7.out.1]; rfl
              have y1 : wr6.cell? ⟨pbx5, 1, none⟩ = some (.int .i64 0) := by rw [cell_blk HQ7.out.1]; rfl
              have g0 : wr6.frozen? ⟨pbx5, 0, none⟩ = false := free_blk HQ7.out.1
              have g1 : wr6.frozen? ⟨pbx5, 1, none⟩ = false := free_blk HQ7.out.1
              refine wpAnyT_one (i := 18) (by kernel_rfl) rfl hD (fun K' hK => ?_)
              go_simp
              have HZ9 : Hid (Below w.heap.size w ((wr6.setCell ⟨pbx5, 0, none⟩ (.slice none 0 0)).setCell ⟨pbx5, 1, none⟩ (.int .i64 0))) := (Hr6.out.setCell HQ7.out.2 _).setCell HQ7.out.2 _
              refine hK.out _ _ trivial (fun hD2 hS2 => ?_)
              clear hD hS hK K'
              have hD := hD2
              have hS := hS2
              clear hD2 hS2
              (try simp only [Act.put, List.setIfInBounds_toArray, List.set_cons_zero, List.set_cons_succ, List.getElem_toArray, List.getElem_cons_succ, List.getElem_cons_zero])
              refine wpAnyT_one (i := 19) (by kernel_rfl) rfl hD (fun K' hK => ?_)
              go_simp
              refine hK.out _ _ trivial (fun hD2 hS2 => ?_)
              clear hD hS hK K'
              have hD := hD2
              have hS := hS2
              clear hD2 hS2
              (try simp only [Act.put, List.setIfInBounds_toArray, List.set_cons_zero, List.set_cons_succ, List.getElem_toArray, List.getElem_cons_succ, List.getElem_cons_zero])
              refine wpAnyT_done (by kernel_rfl) ?_ _
              clear hD hS
              go_wp2
              go_meet
              case rel => exact ⟨rfl, HZ9.out⟩
          · go_simp
            have HAx8 : Hid (Below w.heap.size w (wm1.alloc (.cells #[.slice none 0 0, .int .i64 0] 31))) := Hm1.out.alloc Hm1.out.size _
            have HQx8 : Hid ((wm1.alloc (.cells #[.slice none 0 0, .int .i64 0] 31)).heap[wm1.heap.size]? = some (.cells #[.slice none 0 0, .int .i64 0] 31 (0, 0)) ∧ w.heap.size ≤ wm1.heap.size) := ⟨blk_new _ _, Hm1.out.size⟩
            generalize wm1.alloc (.cells #[.slice none 0 0, .int .i64 0] 31) = wax8 at HAx8 HQx8 ⊢
            generalize hpb : wm1.heap.size = pbx8 at HQx8 ⊢
            clear hpb
            refine hK.out _ _ trivial (fun hD2 hS2 => ?_)
            clear hD hS hK K'
            have hD := hD2
            have hS := hS2
            clear hD2 hS2
            (try simp only [Act.put, List.setIfInBounds_toArray, List.set_cons_zero, List.set_cons_succ, List.getElem_toArray, List.getElem_cons_succ, List.getElem_cons_zero])
            refine wpAnyT_one (i := 12) (by kernel_rfl) rfl hD (fun K' hK => ?_)
            go_simp
            obtain ⟨c2, wc9, f2, hf2, b7, hrd2⟩ := HFZ.out wax8 HAx8.out
            have hf3 : (convert 9 23 (.string fs2)).run Tryz.prog wax8 = .ok (.slice (some ⟨wax8.heap.size, 0, none⟩) f2 c2) wc9 := hf2
            have HRD2 := hide hrd2
            have Hc9 : Hid (Below w.heap.size w wc9) := HAx8.out.trans (b7.mono HAx8.out.size)
            have HQ10 : Hid (wc9.heap[pbx8]? = some (.cells #[.slice none 0 0, .int .i64 0] 31 (0, 0)) ∧ w.heap.size ≤ pbx8) := ⟨by rw [b7.block _ (lt_of_block HQx8.out.1)]; exact HQx8.out.1, HQx8.out.2⟩
            clear b7 hrd2 HFZ
            go_simp
            refine hK.out _ _ trivial (fun hD2 hS2 => ?_)
            clear hD hS hK K'
            have hD := hD2
            have hS := hS2
            clear hD2 hS2
            (try simp only [Act.put, List.setIfInBounds_toArray, List.set_cons_zero, List.set_cons_succ, List.getElem_toArray, List.getElem_cons_succ, List.getElem_cons_zero])
            clear hf2 hf3
            refine wpAnyT_one (i := 13) (by kernel_rfl) rfl hD (fun K' hK => ?_)
            go_simp
            refine (HRD2.out _ (Below.refl _ _)).mono ?_
            rintro e wr11 ⟨b, rfl⟩
            have Hr11 : Hid (Below w.heap.size w wr11) := Hc9.out.trans (b.mono Hc9.out.size)
            have HQ12 : Hid (wr11.heap[pbx8]? = some (.cells #[.slice none 0 0, .int .i64 0] 31 (0, 0)) ∧ w.heap.size ≤ pbx8) := ⟨by rw [b.block _ (lt_of_block HQ10.out.1)]; exact HQ10.out.1, HQ10.out.2⟩
            clear b HRD2
            refine hK.out _ _ trivial (fun hD2 hS2 => ?_)
            clear hD hS hK K'
            have hD := hD2
            have hS := hS2
            clear hD2 hS2
            (try simp only [Act.put, List.setIfInBounds_toArray, List.set_cons_zero, List.set_cons_succ, List.getElem_toArray, List.getElem_cons_succ, List.getElem_cons_zero])
            refine wpAnyT_take (i := 14) (v := ?_) rfl (by kernel_rfl) (by kernel_rfl) (by kernel_rfl) (fun _ _ _ h => h) (fun _ _ h => h) (fun _ _ h => h) hD (Or.inl ⟨by rfl, ?_⟩) hS ?_
            rotate_left
            · intro W hW; go_simp; try (with_reducible rfl)
            clear hD hS; intro hD hS; (try simp only [Act.put, List.setIfInBounds_toArray, List.set_cons_zero, List.set_cons_succ, List.getElem_toArray, List.getElem_cons_succ, List.getElem_cons_zero])
            refine wpAnyT_take (i := 15) (v := ?_) rfl (by kernel_rfl) (by kernel_rfl) (by kernel_rfl) (fun _ _ _ h => h) (fun _ _ h => h) (fun _ _ h => h) hD (Or.inl ⟨by rfl, ?_⟩) hS ?_
            rotate_left
            · intro W hW; go_simp; try (with_reducible rfl)
            clear hD hS; intro hD hS; (try simp only [Act.put, List.setIfInBounds_toArray, List.set_cons_zero, List.set_cons_succ, List.getElem_toArray, List.getElem_cons_succ, List.getElem_cons_zero])
            refine wpAnyT_take (i := 16) (v := ?_) rfl (by kernel_rfl) (by kernel_rfl) (by kernel_rfl) (fun _ _ _ h => h) (fun _ _ h => h) (fun _ _ h => h) hD (Or.inl ⟨by rfl, ?_⟩) hS ?_
            rotate_left
            · intro W hW; go_simp; try (with_reducible rfl)
            clear hD hS; intro hD hS; (try simp only [Act.put, List.setIfInBounds_toArray, List.set_cons_zero, List.set_cons_succ, List.getElem_toArray, List.getElem_cons_succ, List.getElem_cons_zero])
            have y0 : wr11.cell? ⟨pbx8, 0, none⟩ = some (.slice none 0 0) := by rw [cell_blk HQ12.out.1]; rfl
            have y1 : wr11.cell? ⟨pbx8, 1, none⟩ = some (.int .i64 0) := by rw [cell_blk HQ12.out.1]; rfl
            have g0 : wr11.frozen? ⟨pbx8, 0, none⟩ = false := free_blk HQ12.out.1
            have g1 : wr11.frozen? ⟨pbx8, 1, none⟩ = false := free_blk HQ12.out.1
            refine wpAnyT_one (i := 18) (by kernel_rfl) rfl hD (fun K' hK => ?_)
            go_simp
            have HZ9 : Hid (Below w.heap.size w ((wr11.setCell ⟨pbx8, 0, none⟩ (.slice none 0 0)).setCell ⟨pbx8, 1, none⟩ (.int .i64 0))) := (Hr11.out.setCell HQ12.out.2 _).setCell HQ12.out.2 _
            refine hK.out _ _ trivial (fun hD2 hS2 => ?_)
            clear hD hS hK K'
            have hD := hD2
            have hS := hS2
            clear hD2 hS2
            (try simp only [Act.put, List.setIfInBounds_toArray, List.set_cons_zero, List.set_cons_succ, List.getElem_toArray, List.getElem_cons_succ, List.getElem_cons_zero])
            refine wpAnyT_one (i := 19) (by kernel_rfl) rfl hD (fun K' hK => ?_)
            go_simp
            refine hK.out _ _ trivial (fun hD2 hS2 => ?_)
            clear hD hS hK K'
            have hD := hD2
            have hS := hS2
            clear hD2 hS2
            (try simp only [Act.put, List.setIfInBounds_toArray, List.set_cons_zero, List.set_cons_succ, List.getElem_toArray, List.getElem_cons_succ, List.getElem_cons_zero])
            refine wpAnyT_done (by kernel_rfl) ?_ _
            clear hD hS
            go_wp2
            go_meet
            case rel => exact ⟨rfl, HZ9.out⟩
        · go_simp
          have HAx13 : Hid (Below w.heap.size w (w6.alloc (.cells #[.slice none 0 0, .int .i64 0] 31))) := HB9.out.alloc HB9.out.size _
          have HQx13 : Hid ((w6.alloc (.cells #[.slice none 0 0, .int .i64 0] 31)).heap[w6.heap.size]? = some (.cells #[.slice none 0 0, .int .i64 0] 31 (0, 0)) ∧ w.heap.size ≤ w6.heap.size) := ⟨blk_new _ _, HB9.out.size⟩
          generalize w6.alloc (.cells #[.slice none 0 0, .int .i64 0] 31) = wax13 at HAx13 HQx13 ⊢
          generalize hpb : w6.heap.size = pbx13 at HQx13 ⊢
          clear hpb
          refine hK.out _ _ trivial (fun hD2 hS2 => ?_)
          clear hD hS hK K'
          have hD := hD2
          have hS := hS2
          clear hD2 hS2
          (try simp only [Act.put, List.setIfInBounds_toArray, List.set_cons_zero, List.set_cons_succ, List.getElem_toArray, List.getElem_cons_succ, List.getElem_cons_zero])
          refine wpAnyT_one (i := 11) (by kernel_rfl) rfl hD (fun K' hK => ?_)
          go_simp
          refine (HMD.out _ n off (a3 : Int) HAx13.out hn6 (by omega) (by omega) (by omega) (by omega)).mono ?_
          rintro e wm14 ⟨rfl, b⟩
          have Hm14 : Hid (Below w.heap.size w wm14) := HAx13.out.trans (b.mono HAx13.out.size)
          have HQ15 : Hid (wm14.heap[pbx13]? = some (.cells #[.slice none 0 0, .int .i64 0] 31 (0, 0)) ∧ w.heap.size ≤ pbx13) := ⟨by rw [b.block _ (lt_of_block HQx13.out.1)]; exact HQx13.out.1, HQx13.out.2⟩
          clear b
          have hdn := HWR.out off (a3 : Int) hof (by omega) (by omega)
          have hrn : Fo.readPlain (Fo.made (Fo.ltexts.take n) G off (a3 : Int)) = none := by unfold Fo.readPlain; rw [hdn]
          have HFZ : Hid (∀ W, Below w.heap.size w W → ∃ cap W' fl, (convert 9 23 (.string (strN (Fo.made (Fo.ltexts.take n) G off (a3 : Int))))).run Tryz.prog W = .ok (.slice (some ⟨W.heap.size, 0, none⟩) fl cap) W' ∧ Below W.heap.size W W' ∧ ∀ Y, Below W'.heap.size W' Y → Calls Tryz.prog 25 #[.slice (some ⟨W.heap.size, 0, none⟩) fl cap, .int .i64 0] Y (ReadRes Y none)) := fun W bW => by
            obtain ⟨c2, w7, f2, hf2, b7, hrd2⟩ := HFR.out W n off (a3 : Int) bW hn6
            refine ⟨c2, w7, f2, hf2, b7, fun Y bY => ?_⟩
            have := hrd2 Y bY (fun z hz => by rw [hdn] at hz; cases hz)
            rw [hrn] at this
            exact this
          generalize strN (Fo.made (Fo.ltexts.take n) G off (a3 : Int)) = fs2 at HFZ ⊢
          clear hdn hrn
          refine hK.out _ _ trivial (fun hD2 hS2 => ?_)
          clear hD hS hK K'
          have hD := hD2
          have hS := hS2
          clear hD2 hS2
          (try simp only [Act.put, List.setIfInBounds_toArray, List.set_cons_zero, List.set_cons_succ, List.getElem_toArray, List.getElem_cons_succ, List.getElem_cons_zero])
          refine wpAnyT_one (i := 12) (by kernel_rfl) rfl hD (fun K' hK => ?_)
          go_simp
          obtain ⟨c2, wc16, f2, hf2, b7, hrd2⟩ := HFZ.out wm14 Hm14.out
          have hf3 : (convert 9 23 (.string fs2)).run Tryz.prog wm14 = .ok (.slice (some ⟨wm14.heap.size, 0, none⟩) f2 c2) wc16 := hf2
          have HRD2 := hide hrd2
          have Hc16 : Hid (Below w.heap.size w wc16) := Hm14.out.trans (b7.mono Hm14.out.size)
          have HQ17 : Hid (wc16.heap[pbx13]? = some (.cells #[.slice none 0 0, .int .i64 0] 31 (0, 0)) ∧ w.heap.size ≤ pbx13) := ⟨by rw [b7.block _ (lt_of_block HQ15.out.1)]; exact HQ15.out.1, HQ15.out.2⟩
          clear b7 hrd2 HFZ
          go_simp
          refine hK.out _ _ trivial (fun hD2 hS2 => ?_)
          clear hD hS hK K'
          have hD := hD2
          have hS := hS2
          clear hD2 hS2
          (try simp only [Act.put, List.setIfInBounds_toArray, List.set_cons_zero, List.set_cons_succ, List.getElem_toArray, List.getElem_cons_succ, List.getElem_cons_zero])
          clear hf2 hf3
          refine wpAnyT_one (i := 13) (by kernel_rfl) rfl hD (fun K' hK => ?_)
          go_simp
          refine (HRD2.out _ (Below.refl _ _)).mono ?_
          rintro e wr18 ⟨b, rfl⟩
          have Hr18 : Hid (Below w.heap.size w wr18) := Hc16.out.trans (b.mono Hc16.out.size)
          have HQ19 : Hid (wr18.heap[pbx13]? = some (.cells #[.slice none 0 0, .int .i64 0] 31 (0, 0)) ∧ w.heap.size ≤ pbx13) := ⟨by rw [b.block _ (lt_of_block HQ17.out.1)]; exact HQ17.out.1, HQ17.out.2⟩
          clear b HRD2
          refine hK.out _ _ trivial (fun hD2 hS2 => ?_)
          clear hD hS hK K'
          have hD := hD2
          have hS := hS2
          clear hD2 hS2
          (try simp only [Act.put, List.setIfInBounds_toArray, List.set_cons_zero, List.set_cons_succ, List.getElem_toArray, List.getElem_cons_succ, List.getElem_cons_zero])
          refine wpAnyT_take (i := 14) (v := ?_) rfl (by kernel_rfl) (by kernel_rfl) (by kernel_rfl) (fun _ _ _ h => h) (fun _ _ h => h) (fun _ _ h => h) hD (Or.inl ⟨by rfl, ?_⟩) hS ?_
          rotate_left
          · intro W hW; go_simp; try (with_reducible rfl)
          clear hD hS; intro hD hS; (try simp only [Act.put, List.setIfInBounds_toArray, List.set_cons_zero, List.set_cons_succ, List.getElem_toArray, List.getElem_cons_succ, List.getElem_cons_zero])
          refine wpAnyT_take (i := 15) (v := ?_) rfl (by kernel_rfl) (by kernel_rfl) (by kernel_rfl) (fun _ _ _ h => h) (fun _ _ h => h) (fun _ _ h => h) hD (Or.inl ⟨by rfl, ?_⟩) hS ?_
          rotate_left
          · intro W hW; go_simp; try (with_reducible rfl)
          clear hD hS; intro hD hS; (try simp only [Act.put, List.setIfInBounds_toArray, List.set_cons_zero, List.set_cons_succ, List.getElem_toArray, List.getElem_cons_succ, List.getElem_cons_zero])
          refine wpAnyT_take (i := 16) (v := ?_) rfl (by kernel_rfl) (by kernel_rfl) (by kernel_rfl) (fun _ _ _ h => h) (fun _ _ h => h) (fun _ _ h => h) hD (Or.inl ⟨by rfl, ?_⟩) hS ?_
          rotate_left
          · intro W hW; go_simp; try (with_reducible rfl)
          clear hD hS; intro hD hS; (try simp only [Act.put, List.setIfInBounds_toArray, List.set_cons_zero, List.set_cons_succ, List.getElem_toArray, List.getElem_cons_succ, List.getElem_cons_zero])
          have y0 : wr18.cell? ⟨pbx13, 0, none⟩ = some (.slice none 0 0) := by rw [cell_blk HQ19.out.1]; rfl
          have y1 : wr18.cell? ⟨pbx13, 1, none⟩ = some (.int .i64 0) := by rw [cell_blk HQ19.out.1]; rfl
          have g0 : wr18.frozen? ⟨pbx13, 0, none⟩ = false := free_blk HQ19.out.1
          have g1 : wr18.frozen? ⟨pbx13, 1, none⟩ = false := free_blk HQ19.out.1
          refine wpAnyT_one (i := 18) (by kernel_rfl) rfl hD (fun K' hK => ?_)
          go_simp
          have HZ9 : Hid (Below w.heap.size w ((wr18.setCell ⟨pbx13, 0, none⟩ (.slice none 0 0)).setCell ⟨pbx13, 1, none⟩ (.int .i64 0))) := (Hr18.out.setCell HQ19.out.2 _).setCell HQ19.out.2 _
          refine hK.out _ _ trivial (fun hD2 hS2 => ?_)
          clear hD hS hK K'
          have hD := hD2
          have hS := hS2
          clear hD2 hS2
          (try simp only [Act.put, List.setIfInBounds_toArray, List.set_cons_zero, List.set_cons_succ, List.getElem_toArray, List.getElem_cons_succ, List.getElem_cons_zero])
          refine wpAnyT_one (i := 19) (by kernel_rfl) rfl hD (fun K' hK => ?_)
          go_simp
          refine hK.out _ _ trivial (fun hD2 hS2 => ?_)
          clear hD hS hK K'
          have hD := hD2
          have hS := hS2
          clear hD2 hS2
          (try simp only [Act.put, List.setIfInBounds_toArray, List.set_cons_zero, List.set_cons_succ, List.getElem_toArray, List.getElem_cons_succ, List.getElem_cons_zero])
          refine wpAnyT_done (by kernel_rfl) ?_ _
          clear hD hS
          go_wp2
          go_meet
          case rel => exact ⟨rfl, HZ9.out⟩
      · go_simp
        have HAx20 : Hid (Below w.heap.size w (w6.alloc (.cells #[.slice none 0 0, .int .i64 0] 31))) := HB9.out.alloc HB9.out.size _
        have HQx20 : Hid ((w6.alloc (.cells #[.slice none 0 0, .int .i64 0] 31)).heap[w6.heap.size]? = some (.cells #[.slice none 0 0, .int .i64 0] 31 (0, 0)) ∧ w.heap.size ≤ w6.heap.size) := ⟨blk_new _ _, HB9.out.size⟩
        generalize w6.alloc (.cells #[.slice none 0 0, .int .i64 0] 31) = wax20 at HAx20 HQx20 ⊢
        generalize hpb : w6.heap.size = pbx20 at HQx20 ⊢
        clear hpb
        refine hK.out _ _ trivial (fun hD2 hS2 => ?_)
        clear hD hS hK K'
        have hD := hD2
        have hS := hS2
        clear hD2 hS2
        (try simp only [Act.put, List.setIfInBounds_toArray, List.set_cons_zero, List.set_cons_succ, List.getElem_toArray, List.getElem_cons_succ, List.getElem_cons_zero])
        refine wpAnyT_one (i := 10) (by kernel_rfl) rfl hD (fun K' hK => ?_)
        go_simp
        refine (HPK2.out _).mono ?_
        rintro e wq ⟨a3, ha3, rfl, hw⟩
        have hw := hw.symm
        subst hw
        refine hK.out _ _ trivial (fun hD2 hS2 => ?_)
        clear hD hS hK K'
        have hD := hD2
        have hS := hS2
        clear hD2 hS2
        (try simp only [Act.put, List.setIfInBounds_toArray, List.set_cons_zero, List.set_cons_succ, List.getElem_toArray, List.getElem_cons_succ, List.getElem_cons_zero])
        refine wpAnyT_one (i := 11) (by kernel_rfl) rfl hD (fun K' hK => ?_)
        go_simp
        refine (HMD.out _ n off (a3 : Int) HAx20.out hn6 (by omega) (by omega) (by omega) (by omega)).mono ?_
        rintro e wm21 ⟨rfl, b⟩
        have Hm21 : Hid (Below w.heap.size w wm21) := HAx20.out.trans (b.mono HAx20.out.size)
        have HQ22 : Hid (wm21.heap[pbx20]? = some (.cells #[.slice none 0 0, .int .i64 0] 31 (0, 0)) ∧ w.heap.size ≤ pbx20) := ⟨by rw [b.block _ (lt_of_block HQx20.out.1)]; exact HQx20.out.1, HQx20.out.2⟩
        clear b
        have hdn := HWR.out off (a3 : Int) hof (by omega) (by omega)
        have hrn : Fo.readPlain (Fo.made (Fo.ltexts.take n) G off (a3 : Int)) = none := by unfold Fo.readPlain; rw [hdn]
        have HFZ : Hid (∀ W, Below w.heap.size w W → ∃ cap W' fl, (convert 9 23 (.string (strN (Fo.made (Fo.ltexts.take n) G off (a3 : Int))))).run Tryz.prog W = .ok (.slice (some ⟨W.heap.size, 0, none⟩) fl cap) W' ∧ Below W.heap.size W W' ∧ ∀ Y, Below W'.heap.size W' Y → Calls Tryz.prog 25 #[.slice (some ⟨W.heap.size, 0, none⟩) fl cap, .int .i64 0] Y (ReadRes Y none)) := fun W bW => by
          obtain ⟨c2, w7, f2, hf2, b7, hrd2⟩ := HFR.out W n off (a3 : Int) bW hn6
          refine ⟨c2, w7, f2, hf2, b7, fun Y bY => ?_⟩
          have := hrd2 Y bY (fun z hz => by rw [hdn] at hz; cases hz)
          rw [hrn] at this
          exact this
        generalize strN (Fo.made (Fo.ltexts.take n) G off (a3 : Int)) = fs2 at HFZ ⊢
        clear hdn hrn
        refine hK.out _ _ trivial (fun hD2 hS2 => ?_)
        clear hD hS hK K'
        have hD := hD2
        have hS := hS2
        clear hD2 hS2
        (try simp only [Act.put, List.setIfInBounds_toArray, List.set_cons_zero, List.set_cons_succ, List.getElem_toArray, List.getElem_cons_succ, List.getElem_cons_zero])
        refine wpAnyT_one (i := 12) (by kernel_rfl) rfl hD (fun K' hK => ?_)
        go_simp
        obtain ⟨c2, wc23, f2, hf2, b7, hrd2⟩ := HFZ.out wm21 Hm21.out
        have hf3 : (convert 9 23 (.string fs2)).run Tryz.prog wm21 = .ok (.slice (some ⟨wm21.heap.size, 0, none⟩) f2 c2) wc23 := hf2
        have HRD2 := hide hrd2
        have Hc23 : Hid (Below w.heap.size w wc23) := Hm21.out.trans (b7.mono Hm21.out.size)
        have HQ24 : Hid (wc23.heap[pbx20]? = some (.cells #[.slice none 0 0, .int .i64 0] 31 (0, 0)) ∧ w.heap.size ≤ pbx20) := ⟨by rw [b7.block _ (lt_of_block HQ22.out.1)]; exact HQ22.out.1, HQ22.out.2⟩
        clear b7 hrd2 HFZ
        go_simp
        refine hK.out _ _ trivial (fun hD2 hS2 => ?_)
        clear hD hS hK K'
        have hD := hD2
        have hS := hS2
        clear hD2 hS2
        (try simp only [Act.put, List.setIfInBounds_toArray, List.set_cons_zero, List.set_cons_succ, List.getElem_toArray, List.getElem_cons_succ, List.getElem_cons_zero])
        clear hf2 hf3
        refine wpAnyT_one (i := 13) (by kernel_rfl) rfl hD (fun K' hK => ?_)
        go_simp
        refine (HRD2.out _ (Below.refl _ _)).mono ?_
        rintro e wr25 ⟨b, rfl⟩
        have Hr25 : Hid (Below w.heap.size w wr25) := Hc23.out.trans (b.mono Hc23.out.size)
        have HQ26 : Hid (wr25.heap[pbx20]? = some (.cells #[.slice none 0 0, .int .i64 0] 31 (0, 0)) ∧ w.heap.size ≤ pbx20) := ⟨by rw [b.block _ (lt_of_block HQ24.out.1)]; exact HQ24.out.1, HQ24.out.2⟩
        clear b HRD2
        refine hK.out _ _ trivial (fun hD2 hS2 => ?_)
        clear hD hS hK K'
        have hD := hD2
        have hS := hS2
        clear hD2 hS2
        (try simp only [Act.put, List.setIfInBounds_toArray, List.set_cons_zero, List.set_cons_succ, List.getElem_toArray, List.getElem_cons_succ, List.getElem_cons_zero])
        refine wpAnyT_take (i := 14) (v := ?_) rfl (by kernel_rfl) (by kernel_rfl) (by kernel_rfl) (fun _ _ _ h => h) (fun _ _ h => h) (fun _ _ h => h) hD (Or.inl ⟨by rfl, ?_⟩) hS ?_
        rotate_left
        · intro W hW; go_simp; try (with_reducible rfl)
        clear hD hS; intro hD hS; (try simp only [Act.put, List.setIfInBounds_toArray, List.set_cons_zero, List.set_cons_succ, List.getElem_toArray, List.getElem_cons_succ, List.getElem_cons_zero])
        refine wpAnyT_take (i := 15) (v := ?_) rfl (by kernel_rfl) (by kernel_rfl) (by kernel_rfl) (fun _ _ _ h => h) (fun _ _ h => h) (fun _ _ h => h) hD (Or.inl ⟨by rfl, ?_⟩) hS ?_
        rotate_left
        · intro W hW; go_simp; try (with_reducible rfl)
        clear hD hS; intro hD hS; (try simp only [Act.put, List.setIfInBounds_toArray, List.set_cons_zero, List.set_cons_succ, List.getElem_toArray, List.getElem_cons_succ, List.getElem_cons_zero])
        refine wpAnyT_take (i := 16) (v := ?_) rfl (by kernel_rfl) (by kernel_rfl) (by kernel_rfl) (fun _ _ _ h => h) (fun _ _ h => h) (fun _ _ h => h) hD (Or.inl ⟨by rfl, ?_⟩) hS ?_
        rotate_left
        · intro W hW; go_simp; try (with_reducible rfl)
        clear hD hS; intro hD hS; (try simp only [Act.put, List.setIfInBounds_toArray, List.set_cons_zero, List.set_cons_succ, List.getElem_toArray, List.getElem_cons_succ, List.getElem_cons_zero])
        have y0 : wr25.cell? ⟨pbx20, 0, none⟩ = some (.slice none 0 0) := by rw [cell_blk HQ26.out.1]; rfl
        have y1 : wr25.cell? ⟨pbx20, 1, none⟩ = some (.int .i64 0) := by rw [cell_blk HQ26.out.1]; rfl
        have g0 : wr25.frozen? ⟨pbx20, 0, none⟩ = false := free_blk HQ26.out.1
        have g1 : wr25.frozen? ⟨pbx20, 1, none⟩ = false := free_blk HQ26.out.1
        refine wpAnyT_one (i := 18) (by kernel_rfl) rfl hD (fun K' hK => ?_)
        go_simp
        have HZ9 : Hid (Below w.heap.size w ((wr25.setCell ⟨pbx20, 0, none⟩ (.slice none 0 0)).setCell ⟨pbx20, 1, none⟩ (.int .i64 0))) := (Hr25.out.setCell HQ26.out.2 _).setCell HQ26.out.2 _
        refine hK.out _ _ trivial (fun hD2 hS2 => ?_)
        clear hD hS hK K'
        have hD := hD2
        have hS := hS2
        clear hD2 hS2
        (try simp only [Act.put, List.setIfInBounds_toArray, List.set_cons_zero, List.set_cons_succ, List.getElem_toArray, List.getElem_cons_succ, List.getElem_cons_zero])
        refine wpAnyT_one (i := 19) (by kernel_rfl) rfl hD (fun K' hK => ?_)
        go_simp
        refine hK.out _ _ trivial (fun hD2 hS2 => ?_)
        clear hD hS hK K'
        have hD := hD2
        have hS := hS2
        clear hD2 hS2
        (try simp only [Act.put, List.setIfInBounds_toArray, List.set_cons_zero, List.set_cons_succ, List.getElem_toArray, List.getElem_cons_succ, List.getElem_cons_zero])
        refine wpAnyT_done (by kernel_rfl) ?_ _
        clear hD hS
        go_wp2
        go_meet
        case rel => exact ⟨rfl, HZ9.out⟩
    · go_simp
      have HAx27 : Hid (Below w.heap.size w (w6.alloc (.cells #[.slice none 0 0, .int .i64 0] 31))) := HB9.out.alloc HB9.out.size _
      have HQx27 : Hid ((w6.alloc (.cells #[.slice none 0 0, .int .i64 0] 31)).heap[w6.heap.size]? = some (.cells #[.slice none 0 0, .int .i64 0] 31 (0, 0)) ∧ w.heap.size ≤ w6.heap.size) := ⟨blk_new _ _, HB9.out.size⟩
      generalize w6.alloc (.cells #[.slice none 0 0, .int .i64 0] 31) = wax27 at HAx27 HQx27 ⊢
      generalize hpb : w6.heap.size = pbx27 at HQx27 ⊢
      clear hpb
      refine hK.out _ _ trivial (fun hD2 hS2 => ?_)
      clear hD hS hK K'
      have hD := hD2
      have hS := hS2
      clear hD2 hS2
      (try simp only [Act.put, List.setIfInBounds_toArray, List.set_cons_zero, List.set_cons_succ, List.getElem_toArray, List.getElem_cons_succ, List.getElem_cons_zero])
      refine wpAnyT_one (i := 5) (by kernel_rfl) rfl hD (fun K' hK => ?_)
      go_simp
      refine (HPK1.out _).mono ?_
      rintro e wq ⟨a2, ha2, rfl, hw⟩
      have hw := hw.symm
      subst hw
      obtain ⟨off, hoff⟩ : ∃ off : Int, 1 - 2 * (a2 : Int) = off := ⟨_, rfl⟩
      have hof : off = 1 ∨ off = -1 := by omega
      have hmw : IntKind.i64.wrap (2 * (a2 : Int)) = 2 * (a2 : Int) := by rw [IntKind.wrap_i64]; omega
      have hsw : IntKind.i64.wrap off = off := by rw [IntKind.wrap_i64]; omega
      clear ha2
      refine hK.out _ _ trivial (fun hD2 hS2 => ?_)
      clear hD hS hK K'
      have hD := hD2
      have hS := hS2
      clear hD2 hS2
      (try simp only [Act.put, List.setIfInBounds_toArray, List.set_cons_zero, List.set_cons_succ, List.getElem_toArray, List.getElem_cons_succ, List.getElem_cons_zero])
      refine wpAnyT_take (i := 6) (v := ?_) rfl (by kernel_rfl) (by kernel_rfl) (by kernel_rfl) (fun _ _ _ h => h) (fun _ _ h => h) (fun _ _ h => h) hD (Or.inl ⟨by rfl, ?_⟩) hS ?_
      rotate_left
      · intro W hW; go_simp; try (with_reducible rfl)
      clear hD hS; intro hD hS; (try simp only [Act.put, List.setIfInBounds_toArray, List.set_cons_zero, List.set_cons_succ, List.getElem_toArray, List.getElem_cons_succ, List.getElem_cons_zero])
      refine wpAnyT_take (i := 7) (v := ?_) rfl (by kernel_rfl) (by kernel_rfl) (by kernel_rfl) (fun _ _ _ h => h) (fun _ _ h => h) (fun _ _ h => h) hD (Or.inl ⟨by rfl, ?_⟩) hS ?_
      rotate_left
      · intro W hW; go_simp; try (with_reducible rfl)
      clear hD hS; intro hD hS; (try simp only [Act.put, List.setIfInBounds_toArray, List.set_cons_zero, List.set_cons_succ, List.getElem_toArray, List.getElem_cons_succ, List.getElem_cons_zero])
      clear hmw hsw hoff
      refine wpAnyT_one (i := 10) (by kernel_rfl) rfl hD (fun K' hK => ?_)
      go_simp
      refine (HPK2.out _).mono ?_
      rintro e wq ⟨a3, ha3, rfl, hw⟩
      have hw := hw.symm
      subst hw
      refine hK.out _ _ trivial (fun hD2 hS2 => ?_)
      clear hD hS hK K'
      have hD := hD2
      have hS := hS2
      clear hD2 hS2
      (try simp only [Act.put, List.setIfInBounds_toArray, List.set_cons_zero, List.set_cons_succ, List.getElem_toArray, List.getElem_cons_succ, List.getElem_cons_zero])
      refine wpAnyT_one (i := 11) (by kernel_rfl) rfl hD (fun K' hK => ?_)
      go_simp
      refine (HMD.out _ n off (a3 : Int) HAx27.out hn6 (by omega) (by omega) (by omega) (by omega)).mono ?_
      rintro e wm28 ⟨rfl, b⟩
      have Hm28 : Hid (Below w.heap.size w wm28) := HAx27.out.trans (b.mono HAx27.out.size)
      have HQ29 : Hid (wm28.heap[pbx27]? = some (.cells #[.slice none 0 0, .int .i64 0] 31 (0, 0)) ∧ w.heap.size ≤ pbx27) := ⟨by rw [b.block _ (lt_of_block HQx27.out.1)]; exact HQx27.out.1, HQx27.out.2⟩
      clear b
      have hdn := HWR.out off (a3 : Int) hof (by omega) (by omega)
      have hrn : Fo.readPlain (Fo.made (Fo.ltexts.take n) G off (a3 : Int)) = none := by unfold Fo.readPlain; rw [hdn]
      have HFZ : Hid (∀ W, Below w.heap.size w W → ∃ cap W' fl, (convert 9 23 (.string (strN (Fo.made (Fo.ltexts.take n) G off (a3 : Int))))).run Tryz.prog W = .ok (.slice (some ⟨W.heap.size, 0, none⟩) fl cap) W' ∧ Below W.heap.size W W' ∧ ∀ Y, Below W'.heap.size W' Y → Calls Tryz.prog 25 #[.slice (some ⟨W.heap.size, 0, none⟩) fl cap, .int .i64 0] Y (ReadRes Y none)) := fun W bW => by
        obtain ⟨c2, w7, f2, hf2, b7, hrd2⟩ := HFR.out W n off (a3 : Int) bW hn6
        refine ⟨c2, w7, f2, hf2, b7, fun Y bY => ?_⟩
        have := hrd2 Y bY (fun z hz => by rw [hdn] at hz; cases hz)
        rw [hrn] at this
        exact this
      generalize strN (Fo.made (Fo.ltexts.take n) G off (a3 : Int)) = fs2 at HFZ ⊢
      clear hdn hrn
      refine hK.out _ _ trivial (fun hD2 hS2 => ?_)
      clear hD hS hK K'
      have hD := hD2
      have hS := hS2
      clear hD2 hS2
      (try simp only [Act.put, List.setIfInBounds_toArray, List.set_cons_zero, List.set_cons_succ, List.getElem_toArray, List.getElem_cons_succ, List.getElem_cons_zero])
      refine wpAnyT_one (i := 12) (by kernel_rfl) rfl hD (fun K' hK => ?_)
      go_simp
      obtain ⟨c2, wc30, f2, hf2, b7, hrd2⟩ := HFZ.out wm28 Hm28.out
      have hf3 : (convert 9 23 (.string fs2)).run Tryz.prog wm28 = .ok (.slice (some ⟨wm28.heap.size, 0, none⟩) f2 c2) wc30 := hf2
      have HRD2 := hide hrd2
      have Hc30 : Hid (Below w.heap.size w wc30) := Hm28.out.trans (b7.mono Hm28.out.size)
      have HQ31 : Hid (wc30.heap[pbx27]? = some (.cells #[.slice none 0 0, .int .i64 0] 31 (0, 0)) ∧ w.heap.size ≤ pbx27) := ⟨by rw [b7.block _ (lt_of_block HQ29.out.1)]; exact HQ29.out.1, HQ29.out.2⟩
      clear b7 hrd2 HFZ
      go_simp
      refine hK.out _ _ trivial (fun hD2 hS2 => ?_)
      clear hD hS hK K'
      have hD := hD2
      have hS := hS2
      clear hD2 hS2
      (try simp only [Act.put, List.setIfInBounds_toArray, List.set_cons_zero, List.set_cons_succ, List.getElem_toArray, List.getElem_cons_succ, List.getElem_cons_zero])
      clear hf2 hf3
      refine wpAnyT_one (i := 13) (by kernel_rfl) rfl hD (fun K' hK => ?_)
      go_simp
      refine (HRD2.out _ (Below.refl _ _)).mono ?_
      rintro e wr32 ⟨b, rfl⟩
      have Hr32 : Hid (Below w.heap.size w wr32) := Hc30.out.trans (b.mono Hc30.out.size)
      have HQ33 : Hid (wr32.heap[pbx27]? = some (.cells #[.slice none 0 0, .int .i64 0] 31 (0, 0)) ∧ w.heap.size ≤ pbx27) := ⟨by rw [b.block _ (lt_of_block HQ31.out.1)]; exact HQ31.out.1, HQ31.out.2⟩
      clear b HRD2
      refine hK.out _ _ trivial (fun hD2 hS2 => ?_)
      clear hD hS hK K'
      have hD := hD2
      have hS := hS2
      clear hD2 hS2
      (try simp only [Act.put, List.setIfInBounds_toArray, List.set_cons_zero, List.set_cons_succ, List.getElem_toArray, List.getElem_cons_succ, List.getElem_cons_zero])
      refine wpAnyT_take (i := 14) (v := ?_) rfl (by kernel_rfl) (by kernel_rfl) (by kernel_rfl) (fun _ _ _ h => h) (fun _ _ h => h) (fun _ _ h => h) hD (Or.inl ⟨by rfl, ?_⟩) hS ?_
      rotate_left
      · intro W hW; go_simp; try (with_reducible rfl)
      clear hD hS; intro hD hS; (try simp only [Act.put, List.setIfInBounds_toArray, List.set_cons_zero, List.set_cons_succ, List.getElem_toArray, List.getElem_cons_succ, List.getElem_cons_zero])
      refine wpAnyT_take (i := 15) (v := ?_) rfl (by kernel_rfl) (by kernel_rfl) (by kernel_rfl) (fun _ _ _ h => h) (fun _ _ h => h) (fun _ _ h => h) hD (Or.inl ⟨by rfl, ?_⟩) hS ?_
      rotate_left
      · intro W hW; go_simp; try (with_reducible rfl)
      clear hD hS; intro hD hS; (try simp only [Act.put, List.setIfInBounds_toArray, List.set_cons_zero, List.set_cons_succ, List.getElem_toArray, List.getElem_cons_succ, List.getElem_cons_zero])
      refine wpAnyT_take (i := 16) (v := ?_) rfl (by kernel_rfl) (by kernel_rfl) (by kernel_rfl) (fun _ _ _ h => h) (fun _ _ h => h) (fun _ _ h => h) hD (Or.inl ⟨by rfl, ?_⟩) hS ?_
      rotate_left
      · intro W hW; go_simp; try (with_reducible rfl)
      clear hD hS; intro hD hS; (try simp only [Act.put, List.setIfInBounds_toArray, List.set_cons_zero, List.set_cons_succ, List.getElem_toArray, List.getElem_cons_succ, List.getElem_cons_zero])
      have y0 : wr32.cell? ⟨pbx27, 0, none⟩ = some (.slice none 0 0) := by rw [cell_blk HQ33.out.1]; rfl
      have y1 : wr32.cell? ⟨pbx27, 1, none⟩ = some (.int .i64 0) := by rw [cell_blk HQ33.out.1]; rfl
      have g0 : wr32.frozen? ⟨pbx27, 0, none⟩ = false := free_blk HQ33.out.1
      have g1 : wr32.frozen? ⟨pbx27, 1, none⟩ = false := free_blk HQ33.out.1
      refine wpAnyT_one (i := 18) (by kernel_rfl) rfl hD (fun K' hK => ?_)
      go_simp
      have HZ9 : Hid (Below w.heap.size w ((wr32.setCell ⟨pbx27, 0, none⟩ (.slice none 0 0)).setCell ⟨pbx27, 1, none⟩ (.int .i64 0))) := (Hr32.out.setCell HQ33.out.2 _).setCell HQ33.out.2 _
      refine hK.out _ _ trivial (fun hD2 hS2 => ?_)
      clear hD hS hK K'
      have hD := hD2
      have hS := hS2
      clear hD2 hS2
      (try simp only [Act.put, List.setIfInBounds_toArray, List.set_cons_zero, List.set_cons_succ, List.getElem_toArray, List.getElem_cons_succ, List.getElem_cons_zero])
      refine wpAnyT_one (i := 19) (by kernel_rfl) rfl hD (fun K' hK => ?_)
      go_simp
      refine hK.out _ _ trivial (fun hD2 hS2 => ?_)
      clear hD hS hK K'
      have hD := hD2
      have hS := hS2
      clear hD2 hS2
      (try simp only [Act.put, List.setIfInBounds_toArray, List.set_cons_zero, List.set_cons_succ, List.getElem_toArray, List.getElem_cons_succ, List.getElem_cons_zero])
      refine wpAnyT_done (by kernel_rfl) ?_ _
      clear hD hS
      go_wp2
      go_meet
      case rel => exact ⟨rfl, HZ9.out⟩
  case rest =>
    obtain ⟨rfl, HBC⟩ := hcut
    obtain ⟨n1, hn1⟩ : ∃ n1, n1 + 1 = n := ⟨n - 1, by omega⟩
    have hnw : IntKind.i64.wrap ((n : Int) - 1) = (n1 : Int) := by rw [IntKind.wrap_i64]; omega
    have hnw2 : (n : Int) - 1 = (n1 : Int) := by omega
    have hn1i : (n1 : Int) ≤ 6 := by omega
    have hn1n : n1 ≤ 6 := by omega
    obtain ⟨rc, hrc⟩ : ∃ rc : Int, (if 2 ≤ n1 then (0 : Int) else 4) = rc := ⟨_, rfl⟩
    have HMD1 := hide (HMD.out wc n1 0 (-1) HBC.out hn1n (by omega) (by omega) (by omega) (by omega))
    have HFR1 : Hid (∀ W, Below w.heap.size w W → ∃ cap W' fl, (convert 9 23 (.string (strN (Fo.made (Fo.ltexts.take n1) G 0 (-1))))).run Tryz.prog W = .ok (.slice (some ⟨W.heap.size, 0, none⟩) fl cap) W' ∧ Below W.heap.size W W' ∧ Calls Tryz.prog 25 #[.slice (some ⟨W.heap.size, 0, none⟩) fl cap, .int .i64 0] W' fun e w' => ∃ ov r, e = .returned (.tuple #[.agg #[ov, .int .i64 r], .int .i64 rc]) ∧ (∃ a n c, ov = .slice a n c) ∧ Below W'.heap.size W' w') := fun W bW => by
      obtain ⟨c2, w7, f2, hf2, b7, hrd2⟩ := HFR.out W n1 0 (-1) bW hn1n
      have hr := hrd2 w7 (Below.refl _ _) (HNS.out n1 hn1n)
      refine ⟨c2, w7, f2, hf2, b7, hr.mono fun e w' h => ?_⟩
      have := ReadRes.err h
      rw [HRD.out n1 hn1n] at this
      have hc : (if (if 2 ≤ n1 then some (Fo.lvals.take n1, (1 : Int)) else none).isSome = true then (0 : Int) else 4) = rc := by
        rw [← hrc]
        by_cases h : 2 ≤ n1 <;> simp [h]
      rw [hc] at this
      exact this
    generalize strN (Fo.made (Fo.ltexts.take n1) G 0 (-1)) = fs3 at HMD1 HFR1
    clear HMD HFR HNS HRD HWR HE HG Z0 HWT
    go_wp2_with fail
    refine HMD1.out.mono ?_
    rintro e w8 ⟨rfl, b8⟩
    have HB8 : Hid (Below w.heap.size w w8) := HBC.out.trans (b8.mono HBC.out.size)
    obtain ⟨c3, w9, f3, hf3, b9, hrd3⟩ := HFR1.out w8 HB8.out
    have HR3 := hide hrd3
    have HB9 : Hid (Below w.heap.size w w9) := HB8.out.trans (b9.mono HB8.out.size)
    clear b8 b9 hrd3 HMD1 HFR1
    go_wp2_with fail
    refine HR3.out.mono ?_
    rintro e wx ⟨ov3, r3, rfl, ⟨a3, n3, c4, rfl⟩, bx⟩
    have HBX : Hid (Below w.heap.size w wx) := HB9.out.trans (bx.mono HB9.out.size)
    have HBW : Hid (Below w0.heap.size w0 (wx.alloc (.cells #[.slice a3 n3 c4, .int .i64 r3] 31))) := (HB0.out.trans (HBX.out.mono HB0.out.size)).alloc (Nat.le_trans HB0.out.size HBX.out.size) _
    clear bx HR3 hf3
    by_cases h2 : n = 2
    · have t2 : ((n : Int) == 2) = true := by simp; omega
      have hrc4 : rc = 4 := by rw [← hrc, if_neg (by omega)]
      subst hrc4
      go_wp2
      go_ret
      exact ⟨rfl, HBW.out⟩
    · have t2 : ((n : Int) == 2) = false := by simp; omega
      have hrc4 : rc = 0 := by rw [← hrc, if_pos (by omega)]
      subst hrc4
      go_wp2
      go_ret
      exact ⟨rfl, HBW.out⟩
end Go.Proofs.YtgkljcmjnphpeaaGreatDoor
