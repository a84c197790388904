/- An object of a file, whole. -/
import Derived.Test.YtgkljcmjnphpeaaGreatDoorK21
set_option linter.unusedVariables false
set_option linter.unusedSimpArgs false
namespace Go.Proofs.YtgkljcmjnphpeaaGreatDoor
open Go.RowKit
variable {w w' : World} {w0 : World} {B bs cap : Nat} {ao : Option Addr} {data q : List Nat} {ov pv lv : Value} {vs : List Value} {Vs : List (VT 12)} {ps : List Value} {Ps : List (List Nat)} {pls : List Nat}
set_option maxRecDepth 100000 in
set_option maxHeartbeats 8000000 in
theorem object_ok (he0 : Env B w0) (h : Fi w0 B bs ao cap data w q ov pv lv vs Vs ps Ps pls) (hpl : pls.length + q.length ≤ 200000) (hvl : vs.length = pls.length) (hpp : ps.length = pls.length) :
    Calls Tryz.prog 139 #[.pointer (some ⟨bs, 0, none⟩)] w (ObRes w0 B bs ao cap data Vs Ps pls (data.length - q.length) (Fo.object (pls.length + 1) q)) := by
  obtain ⟨i0, hi, hz0, hz1, hz2⟩ := info_parts infoIntW
  obtain ⟨i1, gi, gz0, gz1, gz2⟩ := info_parts infoValue
  obtain ⟨i2, bi, bz0, bz1, bz2⟩ := info_parts infoBytes
  have HF := hide h
  have HEW : Hid (∀ W : World, Only bs w0 W → Env B W) := fun W o => he0.only h.sc.hb (Nat.le_trans h.sc.hb (Nat.le_of_lt h.lt)) o
  have hBw := h.sc.env
  have hBb := h.sc.hb
  have hlt := h.lt
  have hlw := h.sc.lt
  obtain ⟨R, hR⟩ : ∃ R, Fo.object (pls.length + 1) q = R := ⟨_, rfl⟩
  rw [hR]
  have HR := hide hR
  unfold Fo.object at HR
  obtain ⟨at_, hat⟩ : ∃ a, data.length - q.length = a := ⟨_, rfl⟩
  rw [hat]
  have c1 : w.cell? ⟨bs, 1, none⟩ = some (.int .i64 (at_ : Int)) := by rw [← hat]; exact h.sc.c1
  have c4 : w.cell? ⟨bs, 4, none⟩ = some lv := h.sc.c4
  obtain ⟨la, lc, hlv⟩ := own_slice h.ol
  have hatl : at_ ≤ 200000 := by rw [← hat]; have := h.sc.len; omega
  have HC : Hid (SC2 14 ⟨bs, 4, none⟩ ⟨bs, 1, none⟩ lv (.int .i64 (at_ : Int)) (Array.replicate 15 false) w.drew) := ⟨fun _ => c4, c1⟩
  clear h he0 hR hat
  go_enter Tryz.func139, Tryz.ntmps139
  go_wp2_with fail
  refine wp_region_T (SC2 14 ⟨bs, 4, none⟩ ⟨bs, 1, none⟩ lv (.int .i64 (at_ : Int))) (by kernel_rfl) ?_
  intro hD
  have hS := HC.out
  refine wpAnyT_take (i := 0) (v := ?_) rfl (by kernel_rfl) (by kernel_rfl) (by kernel_rfl) (fun _ _ _ h => h) (fun _ _ h => (SC2.set (by decide)).1 h) (fun _ _ h => (SC2.set (by decide)).2 h) hD (Or.inl ⟨by rfl, ?_⟩) hS ?_
  rotate_left
  · intro W hW; go_simp; try (with_reducible rfl)
  clear hD hS; intro hD hS; (try simp only [Act.put, List.setIfInBounds_toArray, List.set_cons_zero, List.set_cons_succ, List.getElem_toArray, List.getElem_cons_succ, List.getElem_cons_zero])
  refine wpAnyT_take (i := 1) (v := ?_) rfl (by kernel_rfl) (by kernel_rfl) (by kernel_rfl) (fun _ _ _ h => h) (fun _ _ h => (SC2.set (by decide)).1 h) (fun _ _ h => (SC2.set (by decide)).2 h) hD (Or.inl ⟨by rfl, ?_⟩) hS ?_
  rotate_left
  · intro W hW; go_simp; try (with_reducible rfl)
  clear hD hS; intro hD hS; (try simp only [Act.put, List.setIfInBounds_toArray, List.set_cons_zero, List.set_cons_succ, List.getElem_toArray, List.getElem_cons_succ, List.getElem_cons_zero])
  refine wpAnyT_take (i := 2) (v := ?_) rfl (by kernel_rfl) (by kernel_rfl) (by kernel_rfl) (fun _ _ _ h => h) (fun _ _ h => (SC2.set (by decide)).1 h) (fun _ _ h => (SC2.set (by decide)).2 h) hD (Or.inl ⟨by rfl, ?_⟩) hS ?_
  rotate_left
  · intro W hW; go_simp; try (with_reducible rfl)
  clear hD hS; intro hD hS; (try simp only [Act.put, List.setIfInBounds_toArray, List.set_cons_zero, List.set_cons_succ, List.getElem_toArray, List.getElem_cons_succ, List.getElem_cons_zero])
  refine wpAnyT_take (i := 3) (v := ?_) rfl (by kernel_rfl) (by kernel_rfl) (by kernel_rfl) (fun _ _ _ h => h) (fun _ _ h => (SC2.set (by decide)).1 h) (fun _ _ h => (SC2.set (by decide)).2 h) hD (Or.inl ⟨by rfl, ?_⟩) hS ?_
  rotate_left
  · intro W hW; go_simp; try (with_reducible rfl)
  clear hD hS; intro hD hS; (try simp only [Act.put, List.setIfInBounds_toArray, List.set_cons_zero, List.set_cons_succ, List.getElem_toArray, List.getElem_cons_succ, List.getElem_cons_zero])
  refine wpAnyT_take (i := 4) (v := ?_) rfl (by kernel_rfl) (by kernel_rfl) (by kernel_rfl) (fun _ _ _ h => h) (fun _ _ h => (SC2.set (by decide)).1 h) (fun _ _ h => (SC2.set (by decide)).2 h) hD (Or.inl ⟨by rfl, ?_⟩) hS ?_
  rotate_left
  · intro W hW; obtain ⟨L, hDs, hL, hSL⟩ := hW; have hcl := hSL.1 (by cases h9 : L.getD 14 false with | false => rfl | true => exact absurd (hDs.came 3 14 (by kernel_rfl) h9) (by rw [getD_inX hL]; decide)); go_simp; try (with_reducible rfl)
  clear hD hS; intro hD hS; (try simp only [Act.put, List.setIfInBounds_toArray, List.set_cons_zero, List.set_cons_succ, List.getElem_toArray, List.getElem_cons_succ, List.getElem_cons_zero])
  refine wpAnyT_take (i := 5) (v := ?_) rfl (by kernel_rfl) (by kernel_rfl) (by kernel_rfl) (fun _ _ _ h => h) (fun _ _ h => (SC2.set (by decide)).1 h) (fun _ _ h => (SC2.set (by decide)).2 h) hD (Or.inl ⟨by rfl, ?_⟩) hS ?_
  rotate_left
  · intro W hW; go_simp; try (with_reducible rfl)
  clear hD hS; intro hD hS; (try simp only [Act.put, List.setIfInBounds_toArray, List.set_cons_zero, List.set_cons_succ, List.getElem_toArray, List.getElem_cons_succ, List.getElem_cons_zero])
  refine wpAnyT_take (i := 6) (v := ?_) rfl (by kernel_rfl) (by kernel_rfl) (by kernel_rfl) (fun _ _ _ h => h) (fun _ _ h => (SC2.set (by decide)).1 h) (fun _ _ h => (SC2.set (by decide)).2 h) hD (Or.inl ⟨by rfl, ?_⟩) hS ?_
  rotate_left
  · intro W hW; go_simp; try (with_reducible rfl)
  clear hD hS; intro hD hS; (try simp only [Act.put, List.setIfInBounds_toArray, List.set_cons_zero, List.set_cons_succ, List.getElem_toArray, List.getElem_cons_succ, List.getElem_cons_zero])
  refine wpAnyT_take (i := 7) (v := ?_) rfl (by kernel_rfl) (by kernel_rfl) (by kernel_rfl) (fun _ _ _ h => h) (fun _ _ h => (SC2.set (by decide)).1 h) (fun _ _ h => (SC2.set (by decide)).2 h) hD (Or.inl ⟨by rfl, ?_⟩) hS ?_
  rotate_left
  · intro W hW; go_simp; try (with_reducible rfl)
  clear hD hS; intro hD hS; (try simp only [Act.put, List.setIfInBounds_toArray, List.set_cons_zero, List.set_cons_succ, List.getElem_toArray, List.getElem_cons_succ, List.getElem_cons_zero])
  refine wpAnyT_take (i := 8) (v := ?_) rfl (by kernel_rfl) (by kernel_rfl) (by kernel_rfl) (fun _ _ _ h => h) (fun _ _ h => (SC2.set (by decide)).1 h) (fun _ _ h => (SC2.set (by decide)).2 h) hD (Or.inl ⟨by rfl, ?_⟩) hS ?_
  rotate_left
  · intro W hW; go_simp; try (with_reducible rfl)
  clear hD hS; intro hD hS; (try simp only [Act.put, List.setIfInBounds_toArray, List.set_cons_zero, List.set_cons_succ, List.getElem_toArray, List.getElem_cons_succ, List.getElem_cons_zero])
  refine wpAnyT_take (i := 9) (v := ?_) rfl (by kernel_rfl) (by kernel_rfl) (by kernel_rfl) (fun _ _ _ h => h) (fun _ _ h => (SC2.set (by decide)).1 h) (fun _ _ h => (SC2.set (by decide)).2 h) hD (Or.inl ⟨by rfl, ?_⟩) hS ?_
  rotate_left
  · intro W hW; obtain ⟨L, hDs, hL, hSL⟩ := hW; have hcl := hSL.2; go_simp; try (with_reducible rfl)
  clear hD hS; intro hD hS; (try simp only [Act.put, List.setIfInBounds_toArray, List.set_cons_zero, List.set_cons_succ, List.getElem_toArray, List.getElem_cons_succ, List.getElem_cons_zero])
  refine wpAnyT_one (i := 10) (by kernel_rfl) rfl hD (fun K' hK => ?_)
  go_simp
  have H1 := hide (HF.out.drew.alloc (.cells #[.int .i64 (at_ : Int)] 3))
  have e4 : (w.drew.alloc (.cells #[.int .i64 (at_ : Int)] 3)).cell? ⟨bs, 4, none⟩ = some lv := H1.out.sc.c4
  have e1 : (w.drew.alloc (.cells #[.int .i64 (at_ : Int)] 3)).cell? ⟨bs, 1, none⟩ = some (.int .i64 (at_ : Int)) := by rw [World.cell?_alloc_lt _ _ _ hlw]; exact c1
  refine hK.out _ _ ⟨fun _ => e4, e1⟩ (fun hD2 hS2 => ?_)
  clear hD hS hK K'
  have hD := hD2
  have hS := hS2
  clear hD2 hS2
  (try simp only [Act.put, List.setIfInBounds_toArray, List.set_cons_zero, List.set_cons_succ, List.getElem_toArray, List.getElem_cons_succ, List.getElem_cons_zero])
  refine wpAnyT_one (i := 11) (by kernel_rfl) rfl hD (fun K' hK => ?_)
  refine step_append_where rfl (.tmp 8) (.tmp 14) 52 rfl w0.heap.size 3 i0 (.int .i64 0) 1 8 Tryz.underlying52 hi hz0 hz1 hz2 rfl (by decide) lv pls.length (pls.map fun n : Nat => .int .i64 (n : Int)) (by rw [hlv]; rfl) H1.out.ol ⟨w.heap.size, 0, none⟩ 1 1 [.int .i64 (at_ : Int)] rfl rfl ?hnews ?hone ?h63 ?hby ?hbs ?_
  case hnews =>
    intro j u hu
    rw [addr_add]
    show (w.alloc (.cells #[.int .i64 (at_ : Int)] 3)).cell? ⟨w.heap.size, j, none⟩ = some u
    rw [cell_blk (blk_new w _)]
    simpa using hu
  case hone => intro u hu; simp at hu; subst hu; rfl
  case h63 => unfold maxLen; omega
  case hby => omega
  case hbs => exact H1.out.only.size
  intro v6 w6 own6 hg6 hw6
  have H2 : Hid (Fi w0 B bs ao cap data (w6.setCell ⟨bs, 4, none⟩ v6) q ov pv v6 vs Vs ps Ps (pls ++ [at_])) := H1.out.place own6 hg6 hw6
  have hv6 := (hg6.block bs (lt_of_block H1.out.sc.blk) (fun e => by have := (H1.out.ol.lt _ e.symm).1; omega)).trans H1.out.sc.blk
  have hc6 : w6.cell? ⟨bs, 4, none⟩ = some lv := by rw [cell_blk hv6]; rfl
  have hc61 : w6.cell? ⟨bs, 1, none⟩ = some (.int .i64 (at_ : Int)) := by rw [cell_blk hv6, ← cell_blk H1.out.sc.blk]; exact e1
  have hf6 : w6.frozen? ⟨bs, 4, none⟩ = false := free_blk hv6
  obtain ⟨a6, c6, hv6s⟩ := own_slice own6
  subst hv6s
  clear own6 hg6 hw6 hv6 H1 e4 e1
  refine hK.out _ _ ⟨fun _ => hc6, hc61⟩ (fun hD2 hS2 => ?_)
  clear hD hS hK K'
  have hD := hD2
  have hS := hS2
  clear hD2 hS2
  (try simp only [Act.put, List.setIfInBounds_toArray, List.set_cons_zero, List.set_cons_succ, List.getElem_toArray, List.getElem_cons_succ, List.getElem_cons_zero])
  refine wpAnyT_one (i := 12) (by kernel_rfl) rfl hD (fun K' hK => ?_)
  go_simp
  refine hK.out _ _ ⟨fun _ => hc6, hc61⟩ (fun hD2 hS2 => ?_)
  clear hD hS hK K'
  have hD := hD2
  have hS := hS2
  clear hD2 hS2
  (try simp only [Act.put, List.setIfInBounds_toArray, List.set_cons_zero, List.set_cons_succ, List.getElem_toArray, List.getElem_cons_succ, List.getElem_cons_zero])
  refine wpAnyT_one (i := 13) (by kernel_rfl) rfl hD (fun K' hK => ?_)
  go_simp
  refine hK.out _ _ ⟨fun _ => hc6, hc61⟩ (fun hD2 hS2 => ?_)
  clear hD hS hK K'
  have hD := hD2
  have hS := hS2
  clear hD2 hS2
  (try simp only [Act.put, List.setIfInBounds_toArray, List.set_cons_zero, List.set_cons_succ, List.getElem_toArray, List.getElem_cons_succ, List.getElem_cons_zero])
  refine wpAnyT_one (i := 14) (by kernel_rfl) rfl hD (fun K' hK => ?_)
  go_simp
  refine hK.out _ _ ⟨fun h9 => (by cases h9), (World.cell?_setCell_other _ _ _ _ (by intro e; injection e with e1 e2; cases e2)).trans hc61⟩ (fun hD2 hS2 => ?_)
  clear hD hS hK K'
  have hD := hD2
  have hS := hS2
  clear hD2 hS2
  (try simp only [Act.put, List.setIfInBounds_toArray, List.set_cons_zero, List.set_cons_succ, List.getElem_toArray, List.getElem_cons_succ, List.getElem_cons_zero])
  refine wpAnyT_done (by kernel_rfl) ?_ _
  clear hD hS
  generalize w6.setCell ⟨bs, 4, none⟩ (.slice a6 (pls.length + 1) c6) = w1 at *
  obtain ⟨N, hN⟩ : ∃ N, pls.length + 1 = N := ⟨_, rfl⟩
  rw [hN] at H2 HR
  have hNl : N ≤ 200001 := by omega
  have HNN := hide hN
  clear hN hc6 hc61 hf6 c1 c4 hlv HC HF
  have HS1 := hide H2.out.drew.sc
  have HE1 : Hid (Env B w1.drew) := HEW.out _ H2.out.drew.only
  have hBw1 : B ≤ w1.drew.heap.size := H2.out.drew.sc.env
  go_wp2_with fail
  refine wp_region_T (SC1 ⟨bs, 4, none⟩ (.slice a6 N c6)) (by kernel_rfl) ?_
  intro hD
  have hS : SC1 ⟨bs, 4, none⟩ (.slice a6 N c6) (Array.replicate 23 false) w1.drew := HS1.out.c4
  refine wpAnyT_take (i := 0) (v := ?_) rfl (by kernel_rfl) (by kernel_rfl) (by kernel_rfl) (fun _ _ _ h => h) (fun _ _ h => h) (fun _ _ h => h) hD (Or.inl ⟨by rfl, ?_⟩) hS ?_
  rotate_left
  · intro W hW; go_simp; try (with_reducible rfl)
  clear hD hS; intro hD hS; (try simp only [Act.put, List.setIfInBounds_toArray, List.set_cons_zero, List.set_cons_succ, List.getElem_toArray, List.getElem_cons_succ, List.getElem_cons_zero])
  refine wpAnyT_take (i := 1) (v := ?_) rfl (by kernel_rfl) (by kernel_rfl) (by kernel_rfl) (fun _ _ _ h => h) (fun _ _ h => h) (fun _ _ h => h) hD (Or.inl ⟨by rfl, ?_⟩) hS ?_
  rotate_left
  · intro W hW; go_simp; try (with_reducible rfl)
  clear hD hS; intro hD hS; (try simp only [Act.put, List.setIfInBounds_toArray, List.set_cons_zero, List.set_cons_succ, List.getElem_toArray, List.getElem_cons_succ, List.getElem_cons_zero])
  refine wpAnyT_take (i := 2) (v := ?_) rfl (by kernel_rfl) (by kernel_rfl) (by kernel_rfl) (fun _ _ _ h => h) (fun _ _ h => h) (fun _ _ h => h) hD (Or.inl ⟨by rfl, ?_⟩) hS ?_
  rotate_left
  · intro W hW; go_simp; try (with_reducible rfl)
  clear hD hS; intro hD hS; (try simp only [Act.put, List.setIfInBounds_toArray, List.set_cons_zero, List.set_cons_succ, List.getElem_toArray, List.getElem_cons_succ, List.getElem_cons_zero])
  refine wpAnyT_take (i := 3) (v := ?_) rfl (by kernel_rfl) (by kernel_rfl) (by kernel_rfl) (fun _ _ _ h => h) (fun _ _ h => h) (fun _ _ h => h) hD (Or.inl ⟨by rfl, ?_⟩) hS ?_
  rotate_left
  · intro W hW; go_simp; try (with_reducible rfl)
  clear hD hS; intro hD hS; (try simp only [Act.put, List.setIfInBounds_toArray, List.set_cons_zero, List.set_cons_succ, List.getElem_toArray, List.getElem_cons_succ, List.getElem_cons_zero])
  refine wpAnyT_take (i := 4) (v := ?_) rfl (by kernel_rfl) (by kernel_rfl) (by kernel_rfl) (fun _ _ _ h => h) (fun _ _ h => h) (fun _ _ h => h) hD (Or.inl ⟨by rfl, ?_⟩) hS ?_
  rotate_left
  · intro W hW; go_simp; try (with_reducible rfl)
  clear hD hS; intro hD hS; (try simp only [Act.put, List.setIfInBounds_toArray, List.set_cons_zero, List.set_cons_succ, List.getElem_toArray, List.getElem_cons_succ, List.getElem_cons_zero])
  refine wpAnyT_take (i := 5) (v := ?_) rfl (by kernel_rfl) (by kernel_rfl) (by kernel_rfl) (fun _ _ _ h => h) (fun _ _ h => h) (fun _ _ h => h) hD (Or.inl ⟨by rfl, ?_⟩) hS ?_
  rotate_left
  · intro W hW; go_simp; try (with_reducible rfl)
  clear hD hS; intro hD hS; (try simp only [Act.put, List.setIfInBounds_toArray, List.set_cons_zero, List.set_cons_succ, List.getElem_toArray, List.getElem_cons_succ, List.getElem_cons_zero])
  refine wpAnyT_take (i := 6) (v := ?_) rfl (by kernel_rfl) (by kernel_rfl) (by kernel_rfl) (fun _ _ _ h => h) (fun _ _ h => h) (fun _ _ h => h) hD (Or.inl ⟨by rfl, ?_⟩) hS ?_
  rotate_left
  · intro W hW; obtain ⟨L, hDs, hL, hSL⟩ := hW; have hcl : W.cell? ⟨bs, 4, none⟩ = some (.slice a6 N c6) := hSL; go_simp; try (with_reducible rfl)
  clear hD hS; intro hD hS; (try simp only [Act.put, List.setIfInBounds_toArray, List.set_cons_zero, List.set_cons_succ, List.getElem_toArray, List.getElem_cons_succ, List.getElem_cons_zero])
  refine wpAnyT_take (i := 7) (v := ?_) rfl (by kernel_rfl) (by kernel_rfl) (by kernel_rfl) (fun _ _ _ h => h) (fun _ _ h => h) (fun _ _ h => h) hD (Or.inl ⟨by rfl, ?_⟩) hS ?_
  rotate_left
  · intro W hW; go_simp; try (with_reducible rfl)
  clear hD hS; intro hD hS; (try simp only [Act.put, List.setIfInBounds_toArray, List.set_cons_zero, List.set_cons_succ, List.getElem_toArray, List.getElem_cons_succ, List.getElem_cons_zero])
  refine wpAnyT_one (i := 8) (by kernel_rfl) rfl hD (fun K' hK => ?_)
  go_simp
  refine (itoa_ok HE1.out hBw1 N (by omega)).mono ?_
  rintro e w2 ⟨rfl, b2⟩
  have H3 := hide (H2.out.drew.below b2)
  have HT1 := hide (stakesWord_ok H3.out.sc (strN (Fo.dec N)))
  rw [bl_strN2 _ (dec_bytes N)] at HT1
  generalize strN (Fo.dec N) = D at *
  clear b2 HS1 HE1 hBw1
  refine hK.out _ _ H3.out.sc.c4 (fun hD2 hS2 => ?_)
  clear hD hS hK K'
  have hD := hD2
  have hS := hS2
  clear hD2 hS2
  (try simp only [Act.put, List.setIfInBounds_toArray, List.set_cons_zero, List.set_cons_succ, List.getElem_toArray, List.getElem_cons_succ, List.getElem_cons_zero])
  cases e1 : Fo.takesWord (Fo.dec N) q with
  | none =>
    rw [e1] at HT1 HR
    have HRN : Hid (R = none) := HR.out.symm
    clear HR
    refine wpAnyT_one (i := 9) (by kernel_rfl) rfl hD (fun K' hK => ?_)
    go_simp
    refine HT1.out.mono ?_
    rintro e w3 ⟨rfl, h3, k3⟩
    have H4 := hide (H3.out.step (show Sc B bs ao cap data _ _ _ w3 q from h3) k3)
    clear h3 k3 HT1
    refine hK.out _ _ H4.out.sc.c4 (fun hD2 hS2 => ?_)
    clear hD hS hK K'
    have hD := hD2
    have hS := hS2
    clear hD2 hS2
    (try simp only [Act.put, List.setIfInBounds_toArray, List.set_cons_zero, List.set_cons_succ, List.getElem_toArray, List.getElem_cons_succ, List.getElem_cons_zero])
    refine wpAnyT_one (i := 10) (by kernel_rfl) rfl hD (fun K' hK => ?_)
    go_simp
    refine hK.out _ _ H4.out.sc.c4 (fun hD2 hS2 => ?_)
    clear hD hS hK K'
    have hD := hD2
    have hS := hS2
    clear hD2 hS2
    (try simp only [Act.put, List.setIfInBounds_toArray, List.set_cons_zero, List.set_cons_succ, List.getElem_toArray, List.getElem_cons_succ, List.getElem_cons_zero])
    refine wpAnyT_take (i := 11) (v := undef) rfl (by kernel_rfl) (by kernel_rfl) (by kernel_rfl) (fun _ _ _ h => h) (fun _ _ h => h) (fun _ _ h => h) hD (Or.inr ⟨by rfl, rfl⟩) hS ?_
    clear hD hS; intro hD hS; (try simp only [Act.put, List.setIfInBounds_toArray, List.set_cons_zero, List.set_cons_succ, List.getElem_toArray, List.getElem_cons_succ, List.getElem_cons_zero])
    refine wpAnyT_take (i := 12) (v := undef) rfl (by kernel_rfl) (by kernel_rfl) (by kernel_rfl) (fun _ _ _ h => h) (fun _ _ h => h) (fun _ _ h => h) hD (Or.inr ⟨by rfl, rfl⟩) hS ?_
    clear hD hS; intro hD hS; (try simp only [Act.put, List.setIfInBounds_toArray, List.set_cons_zero, List.set_cons_succ, List.getElem_toArray, List.getElem_cons_succ, List.getElem_cons_zero])
    refine wpAnyT_take (i := 13) (v := undef) rfl (by kernel_rfl) (by kernel_rfl) (by kernel_rfl) (fun _ _ _ h => h) (fun _ _ h => h) (fun _ _ h => h) hD (Or.inr ⟨by rfl, rfl⟩) hS ?_
    clear hD hS; intro hD hS; (try simp only [Act.put, List.setIfInBounds_toArray, List.set_cons_zero, List.set_cons_succ, List.getElem_toArray, List.getElem_cons_succ, List.getElem_cons_zero])
    refine wpAnyT_take (i := 14) (v := undef) rfl (by kernel_rfl) (by kernel_rfl) (by kernel_rfl) (fun _ _ _ h => h) (fun _ _ h => h) (fun _ _ h => h) hD (Or.inr ⟨by rfl, rfl⟩) hS ?_
    clear hD hS; intro hD hS; (try simp only [Act.put, List.setIfInBounds_toArray, List.set_cons_zero, List.set_cons_succ, List.getElem_toArray, List.getElem_cons_succ, List.getElem_cons_zero])
    refine wpAnyT_one (i := 15) (by kernel_rfl) rfl hD (fun K' hK => ?_)
    go_simp
    refine hK.out _ _ H4.out.sc.c4 (fun hD2 hS2 => ?_)
    clear hD hS hK K'
    have hD := hD2
    have hS := hS2
    clear hD2 hS2
    (try simp only [Act.put, List.setIfInBounds_toArray, List.set_cons_zero, List.set_cons_succ, List.getElem_toArray, List.getElem_cons_succ, List.getElem_cons_zero])
    refine wpAnyT_one (i := 16) (by kernel_rfl) rfl hD (fun K' hK => ?_)
    go_simp
    refine hK.out _ _ H4.out.sc.c4 (fun hD2 hS2 => ?_)
    clear hD hS hK K'
    have hD := hD2
    have hS := hS2
    clear hD2 hS2
    (try simp only [Act.put, List.setIfInBounds_toArray, List.set_cons_zero, List.set_cons_succ, List.getElem_toArray, List.getElem_cons_succ, List.getElem_cons_zero])
    refine wpAnyT_take (i := 17) (v := undef) rfl (by kernel_rfl) (by kernel_rfl) (by kernel_rfl) (fun _ _ _ h => h) (fun _ _ h => h) (fun _ _ h => h) hD (Or.inr ⟨by rfl, rfl⟩) hS ?_
    clear hD hS; intro hD hS; (try simp only [Act.put, List.setIfInBounds_toArray, List.set_cons_zero, List.set_cons_succ, List.getElem_toArray, List.getElem_cons_succ, List.getElem_cons_zero])
    refine wpAnyT_take (i := 18) (v := undef) rfl (by kernel_rfl) (by kernel_rfl) (by kernel_rfl) (fun _ _ _ h => h) (fun _ _ h => h) (fun _ _ h => h) hD (Or.inr ⟨by rfl, rfl⟩) hS ?_
    clear hD hS; intro hD hS; (try simp only [Act.put, List.setIfInBounds_toArray, List.set_cons_zero, List.set_cons_succ, List.getElem_toArray, List.getElem_cons_succ, List.getElem_cons_zero])
    refine wpAnyT_take (i := 19) (v := undef) rfl (by kernel_rfl) (by kernel_rfl) (by kernel_rfl) (fun _ _ _ h => h) (fun _ _ h => h) (fun _ _ h => h) hD (Or.inr ⟨by rfl, rfl⟩) hS ?_
    clear hD hS; intro hD hS; (try simp only [Act.put, List.setIfInBounds_toArray, List.set_cons_zero, List.set_cons_succ, List.getElem_toArray, List.getElem_cons_succ, List.getElem_cons_zero])
    refine wpAnyT_take (i := 20) (v := undef) rfl (by kernel_rfl) (by kernel_rfl) (by kernel_rfl) (fun _ _ _ h => h) (fun _ _ h => h) (fun _ _ h => h) hD (Or.inr ⟨by rfl, rfl⟩) hS ?_
    clear hD hS; intro hD hS; (try simp only [Act.put, List.setIfInBounds_toArray, List.set_cons_zero, List.set_cons_succ, List.getElem_toArray, List.getElem_cons_succ, List.getElem_cons_zero])
    refine wpAnyT_one (i := 21) (by kernel_rfl) rfl hD (fun K' hK => ?_)
    go_simp
    refine hK.out _ _ H4.out.sc.c4 (fun hD2 hS2 => ?_)
    clear hD hS hK K'
    have hD := hD2
    have hS := hS2
    clear hD2 hS2
    (try simp only [Act.put, List.setIfInBounds_toArray, List.set_cons_zero, List.set_cons_succ, List.getElem_toArray, List.getElem_cons_succ, List.getElem_cons_zero])
    refine wpAnyT_one (i := 22) (by kernel_rfl) rfl hD (fun K' hK => ?_)
    go_simp
    refine (smust_no _).mono ?_
    rintro e w' ⟨rfl, rfl⟩
    exact ⟨rfl, .none_ HRN.out H4.out.only⟩
  | some q1 =>
    have hq1 := Fo.takesWord_len e1
    rw [e1] at HT1 HR
    simp only [] at HR
    clear e1
    refine wpAnyT_one (i := 9) (by kernel_rfl) rfl hD (fun K' hK => ?_)
    go_simp
    refine HT1.out.mono ?_
    rintro e w3 ⟨rfl, h3, k3⟩
    have H4 := hide (H3.out.step (show Sc B bs ao cap data _ _ _ w3 q1 from h3) k3)
    have HT2 := hide (stakesWord_ok H4.out.sc { data := #[48] })
    rw [show bl { data := #[48] } = [48] from rfl] at HT2
    clear h3 k3 HT1 H3
    refine hK.out _ _ H4.out.sc.c4 (fun hD2 hS2 => ?_)
    clear hD hS hK K'
    have hD := hD2
    have hS := hS2
    clear hD2 hS2
    (try simp only [Act.put, List.setIfInBounds_toArray, List.set_cons_zero, List.set_cons_succ, List.getElem_toArray, List.getElem_cons_succ, List.getElem_cons_zero])
    refine wpAnyT_one (i := 10) (by kernel_rfl) rfl hD (fun K' hK => ?_)
    go_simp
    refine hK.out _ _ H4.out.sc.c4 (fun hD2 hS2 => ?_)
    clear hD hS hK K'
    have hD := hD2
    have hS := hS2
    clear hD2 hS2
    (try simp only [Act.put, List.setIfInBounds_toArray, List.set_cons_zero, List.set_cons_succ, List.getElem_toArray, List.getElem_cons_succ, List.getElem_cons_zero])
    refine wpAnyT_take (i := 11) (v := ?_) rfl (by kernel_rfl) (by kernel_rfl) (by kernel_rfl) (fun _ _ _ h => h) (fun _ _ h => h) (fun _ _ h => h) hD (Or.inl ⟨by rfl, ?_⟩) hS ?_
    rotate_left
    · intro W hW; go_simp; try (with_reducible rfl)
    clear hD hS; intro hD hS; (try simp only [Act.put, List.setIfInBounds_toArray, List.set_cons_zero, List.set_cons_succ, List.getElem_toArray, List.getElem_cons_succ, List.getElem_cons_zero])
    refine wpAnyT_take (i := 12) (v := ?_) rfl (by kernel_rfl) (by kernel_rfl) (by kernel_rfl) (fun _ _ _ h => h) (fun _ _ h => h) (fun _ _ h => h) hD (Or.inl ⟨by rfl, ?_⟩) hS ?_
    rotate_left
    · intro W hW; go_simp; try (with_reducible rfl)
    clear hD hS; intro hD hS; (try simp only [Act.put, List.setIfInBounds_toArray, List.set_cons_zero, List.set_cons_succ, List.getElem_toArray, List.getElem_cons_succ, List.getElem_cons_zero])
    refine wpAnyT_take (i := 13) (v := ?_) rfl (by kernel_rfl) (by kernel_rfl) (by kernel_rfl) (fun _ _ _ h => h) (fun _ _ h => h) (fun _ _ h => h) hD (Or.inl ⟨by rfl, ?_⟩) hS ?_
    rotate_left
    · intro W hW; go_simp; try (with_reducible rfl)
    clear hD hS; intro hD hS; (try simp only [Act.put, List.setIfInBounds_toArray, List.set_cons_zero, List.set_cons_succ, List.getElem_toArray, List.getElem_cons_succ, List.getElem_cons_zero])
    cases e2 : Fo.takesWord [48] q1 with
    | none =>
      rw [e2] at HT2 HR
      have HRN : Hid (R = none) := HR.out.symm
      clear HR
      refine wpAnyT_one (i := 14) (by kernel_rfl) rfl hD (fun K' hK => ?_)
      go_simp
      refine HT2.out.mono ?_
      rintro e w4 ⟨rfl, h4, k4⟩
      have H5 := hide (H4.out.step (show Sc B bs ao cap data _ _ _ w4 q1 from h4) k4)
      clear h4 k4 HT2
      refine hK.out _ _ H5.out.sc.c4 (fun hD2 hS2 => ?_)
      clear hD hS hK K'
      have hD := hD2
      have hS := hS2
      clear hD2 hS2
      (try simp only [Act.put, List.setIfInBounds_toArray, List.set_cons_zero, List.set_cons_succ, List.getElem_toArray, List.getElem_cons_succ, List.getElem_cons_zero])
      refine wpAnyT_one (i := 15) (by kernel_rfl) rfl hD (fun K' hK => ?_)
      go_simp
      refine hK.out _ _ H5.out.sc.c4 (fun hD2 hS2 => ?_)
      clear hD hS hK K'
      have hD := hD2
      have hS := hS2
      clear hD2 hS2
      (try simp only [Act.put, List.setIfInBounds_toArray, List.set_cons_zero, List.set_cons_succ, List.getElem_toArray, List.getElem_cons_succ, List.getElem_cons_zero])
      refine wpAnyT_one (i := 16) (by kernel_rfl) rfl hD (fun K' hK => ?_)
      go_simp
      refine hK.out _ _ H5.out.sc.c4 (fun hD2 hS2 => ?_)
      clear hD hS hK K'
      have hD := hD2
      have hS := hS2
      clear hD2 hS2
      (try simp only [Act.put, List.setIfInBounds_toArray, List.set_cons_zero, List.set_cons_succ, List.getElem_toArray, List.getElem_cons_succ, List.getElem_cons_zero])
      refine wpAnyT_take (i := 17) (v := undef) rfl (by kernel_rfl) (by kernel_rfl) (by kernel_rfl) (fun _ _ _ h => h) (fun _ _ h => h) (fun _ _ h => h) hD (Or.inr ⟨by rfl, rfl⟩) hS ?_
      clear hD hS; intro hD hS; (try simp only [Act.put, List.setIfInBounds_toArray, List.set_cons_zero, List.set_cons_succ, List.getElem_toArray, List.getElem_cons_succ, List.getElem_cons_zero])
      refine wpAnyT_take (i := 18) (v := undef) rfl (by kernel_rfl) (by kernel_rfl) (by kernel_rfl) (fun _ _ _ h => h) (fun _ _ h => h) (fun _ _ h => h) hD (Or.inr ⟨by rfl, rfl⟩) hS ?_
      clear hD hS; intro hD hS; (try simp only [Act.put, List.setIfInBounds_toArray, List.set_cons_zero, List.set_cons_succ, List.getElem_toArray, List.getElem_cons_succ, List.getElem_cons_zero])
      refine wpAnyT_take (i := 19) (v := undef) rfl (by kernel_rfl) (by kernel_rfl) (by kernel_rfl) (fun _ _ _ h => h) (fun _ _ h => h) (fun _ _ h => h) hD (Or.inr ⟨by rfl, rfl⟩) hS ?_
      clear hD hS; intro hD hS; (try simp only [Act.put, List.setIfInBounds_toArray, List.set_cons_zero, List.set_cons_succ, List.getElem_toArray, List.getElem_cons_succ, List.getElem_cons_zero])
      refine wpAnyT_take (i := 20) (v := undef) rfl (by kernel_rfl) (by kernel_rfl) (by kernel_rfl) (fun _ _ _ h => h) (fun _ _ h => h) (fun _ _ h => h) hD (Or.inr ⟨by rfl, rfl⟩) hS ?_
      clear hD hS; intro hD hS; (try simp only [Act.put, List.setIfInBounds_toArray, List.set_cons_zero, List.set_cons_succ, List.getElem_toArray, List.getElem_cons_succ, List.getElem_cons_zero])
      refine wpAnyT_one (i := 21) (by kernel_rfl) rfl hD (fun K' hK => ?_)
      go_simp
      refine hK.out _ _ H5.out.sc.c4 (fun hD2 hS2 => ?_)
      clear hD hS hK K'
      have hD := hD2
      have hS := hS2
      clear hD2 hS2
      (try simp only [Act.put, List.setIfInBounds_toArray, List.set_cons_zero, List.set_cons_succ, List.getElem_toArray, List.getElem_cons_succ, List.getElem_cons_zero])
      refine wpAnyT_one (i := 22) (by kernel_rfl) rfl hD (fun K' hK => ?_)
      go_simp
      refine (smust_no _).mono ?_
      rintro e w' ⟨rfl, rfl⟩
      exact ⟨rfl, .none_ HRN.out H5.out.only⟩
    | some q2 =>
      have hq2 := Fo.takesWord_len e2
      rw [e2] at HT2 HR
      simp only [] at HR
      clear e2
      refine wpAnyT_one (i := 14) (by kernel_rfl) rfl hD (fun K' hK => ?_)
      go_simp
      refine HT2.out.mono ?_
      rintro e w4 ⟨rfl, h4, k4⟩
      have H5 := hide (H4.out.step (show Sc B bs ao cap data _ _ _ w4 q2 from h4) k4)
      have HT3 := hide (stakesWord_ok H5.out.sc { data := #[111, 98, 106] })
      rw [show bl { data := #[111, 98, 106] } = [111, 98, 106] from rfl] at HT3
      clear h4 k4 HT2 H4
      refine hK.out _ _ H5.out.sc.c4 (fun hD2 hS2 => ?_)
      clear hD hS hK K'
      have hD := hD2
      have hS := hS2
      clear hD2 hS2
      (try simp only [Act.put, List.setIfInBounds_toArray, List.set_cons_zero, List.set_cons_succ, List.getElem_toArray, List.getElem_cons_succ, List.getElem_cons_zero])
      refine wpAnyT_one (i := 15) (by kernel_rfl) rfl hD (fun K' hK => ?_)
      go_simp
      refine hK.out _ _ H5.out.sc.c4 (fun hD2 hS2 => ?_)
      clear hD hS hK K'
      have hD := hD2
      have hS := hS2
      clear hD2 hS2
      (try simp only [Act.put, List.setIfInBounds_toArray, List.set_cons_zero, List.set_cons_succ, List.getElem_toArray, List.getElem_cons_succ, List.getElem_cons_zero])
      refine wpAnyT_one (i := 16) (by kernel_rfl) rfl hD (fun K' hK => ?_)
      go_simp
      refine hK.out _ _ H5.out.sc.c4 (fun hD2 hS2 => ?_)
      clear hD hS hK K'
      have hD := hD2
      have hS := hS2
      clear hD2 hS2
      (try simp only [Act.put, List.setIfInBounds_toArray, List.set_cons_zero, List.set_cons_succ, List.getElem_toArray, List.getElem_cons_succ, List.getElem_cons_zero])
      refine wpAnyT_take (i := 17) (v := ?_) rfl (by kernel_rfl) (by kernel_rfl) (by kernel_rfl) (fun _ _ _ h => h) (fun _ _ h => h) (fun _ _ h => h) hD (Or.inl ⟨by rfl, ?_⟩) hS ?_
      rotate_left
      · intro W hW; go_simp; try (with_reducible rfl)
      clear hD hS; intro hD hS; (try simp only [Act.put, List.setIfInBounds_toArray, List.set_cons_zero, List.set_cons_succ, List.getElem_toArray, List.getElem_cons_succ, List.getElem_cons_zero])
      refine wpAnyT_take (i := 18) (v := ?_) rfl (by kernel_rfl) (by kernel_rfl) (by kernel_rfl) (fun _ _ _ h => h) (fun _ _ h => h) (fun _ _ h => h) hD (Or.inl ⟨by rfl, ?_⟩) hS ?_
      rotate_left
      · intro W hW; go_simp; try (with_reducible rfl)
      clear hD hS; intro hD hS; (try simp only [Act.put, List.setIfInBounds_toArray, List.set_cons_zero, List.set_cons_succ, List.getElem_toArray, List.getElem_cons_succ, List.getElem_cons_zero])
      refine wpAnyT_take (i := 19) (v := ?_) rfl (by kernel_rfl) (by kernel_rfl) (by kernel_rfl) (fun _ _ _ h => h) (fun _ _ h => h) (fun _ _ h => h) hD (Or.inl ⟨by rfl, ?_⟩) hS ?_
      rotate_left
      · intro W hW; go_simp; try (with_reducible rfl)
      clear hD hS; intro hD hS; (try simp only [Act.put, List.setIfInBounds_toArray, List.set_cons_zero, List.set_cons_succ, List.getElem_toArray, List.getElem_cons_succ, List.getElem_cons_zero])
      cases e3 : Fo.takesWord [111, 98, 106] q2 with
      | none =>
        rw [e3] at HT3 HR
        have HRN : Hid (R = none) := HR.out.symm
        clear HR
        refine wpAnyT_one (i := 20) (by kernel_rfl) rfl hD (fun K' hK => ?_)
        go_simp
        refine HT3.out.mono ?_
        rintro e w5 ⟨rfl, h5, k5⟩
        have H6 := hide (H5.out.step (show Sc B bs ao cap data _ _ _ w5 q2 from h5) k5)
        clear h5 k5 HT3
        refine hK.out _ _ H6.out.sc.c4 (fun hD2 hS2 => ?_)
        clear hD hS hK K'
        have hD := hD2
        have hS := hS2
        clear hD2 hS2
        (try simp only [Act.put, List.setIfInBounds_toArray, List.set_cons_zero, List.set_cons_succ, List.getElem_toArray, List.getElem_cons_succ, List.getElem_cons_zero])
        refine wpAnyT_one (i := 21) (by kernel_rfl) rfl hD (fun K' hK => ?_)
        go_simp
        refine hK.out _ _ H6.out.sc.c4 (fun hD2 hS2 => ?_)
        clear hD hS hK K'
        have hD := hD2
        have hS := hS2
        clear hD2 hS2
        (try simp only [Act.put, List.setIfInBounds_toArray, List.set_cons_zero, List.set_cons_succ, List.getElem_toArray, List.getElem_cons_succ, List.getElem_cons_zero])
        refine wpAnyT_one (i := 22) (by kernel_rfl) rfl hD (fun K' hK => ?_)
        go_simp
        refine (smust_no _).mono ?_
        rintro e w' ⟨rfl, rfl⟩
        exact ⟨rfl, .none_ HRN.out H6.out.only⟩
      | some q3 =>
        have hq3 := Fo.takesWord_len e3
        rw [e3] at HT3 HR
        simp only [] at HR
        clear e3
        refine wpAnyT_one (i := 20) (by kernel_rfl) rfl hD (fun K' hK => ?_)
        go_simp
        refine HT3.out.mono ?_
        rintro e w5 ⟨rfl, h5, k5⟩
        have H6 := hide (H5.out.step (show Sc B bs ao cap data _ _ _ w5 q3 from h5) k5)
        clear h5 k5 HT3 H5
        refine hK.out _ _ H6.out.sc.c4 (fun hD2 hS2 => ?_)
        clear hD hS hK K'
        have hD := hD2
        have hS := hS2
        clear hD2 hS2
        (try simp only [Act.put, List.setIfInBounds_toArray, List.set_cons_zero, List.set_cons_succ, List.getElem_toArray, List.getElem_cons_succ, List.getElem_cons_zero])
        refine wpAnyT_one (i := 21) (by kernel_rfl) rfl hD (fun K' hK => ?_)
        go_simp
        refine hK.out _ _ H6.out.sc.c4 (fun hD2 hS2 => ?_)
        clear hD hS hK K'
        have hD := hD2
        have hS := hS2
        clear hD2 hS2
        (try simp only [Act.put, List.setIfInBounds_toArray, List.set_cons_zero, List.set_cons_succ, List.getElem_toArray, List.getElem_cons_succ, List.getElem_cons_zero])
        refine wpAnyT_one (i := 22) (by kernel_rfl) rfl hD (fun K' hK => ?_)
        go_simp
        refine (smust_yes _).mono ?_
        rintro e w' ⟨rfl, hw⟩
        have hw := hw.symm
        subst hw
        refine hK.out _ _ H6.out.sc.c4 (fun hD2 hS2 => ?_)
        clear hD hS hK K'
        have hD := hD2
        have hS := hS2
        clear hD2 hS2
        (try simp only [Act.put, List.setIfInBounds_toArray, List.set_cons_zero, List.set_cons_succ, List.getElem_toArray, List.getElem_cons_succ, List.getElem_cons_zero])
        refine wpAnyT_done (by kernel_rfl) ?_ _
        clear hD hS
        refine (show Exit.then _ _ Exit.normal _ _ from (‹∀ (a : Act) (w : World), Code.wp Tryz.prog _ _ a w → _› _ _ ?_))
        exact object_rest HEW H6 (by omega) (by omega) HR (Eq.refl (pls ++ [at_])) _ _ _ _ _ _ _ _ _ _ _ _ _ _ _ _ _ _ _ _ _ _ _ _ _ _ _ _ _ _ _ _ _ _ _ _ _
end Go.Proofs.YtgkljcmjnphpeaaGreatDoor
