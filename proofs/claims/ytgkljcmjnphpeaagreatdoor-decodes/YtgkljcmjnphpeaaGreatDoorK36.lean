/- decodeA85 at every input: what the plain function says. -/
import Derived.Test.YtgkljcmjnphpeaaGreatDoorK35
set_option linter.unusedVariables false
set_option linter.unusedSimpArgs false
namespace Go.Proofs.YtgkljcmjnphpeaaGreatDoor
open Go.RowKit
variable {B br bd off cap : Nat} {d : List Nat} {most : Nat} {w : World} {p : Nat} {ov : Value} {out : List Nat}
set_option maxRecDepth 100000 in
set_option maxHeartbeats 4000000 in
theorem a85Group_any {R : Except Nat (List Nat)} {f : Nat} {J : Nat → List Nat → Except Nat (List Nat) → Prop} (HJ : Hid (∀ q o f, d.length - q < f → a85Dec d most f q 0 0 o = R → J q o R)) (h : Rd B br bd off cap d most w p ov out) (hf : d.length - p < f) (hR : a85Dec d most f p 0 0 out = R) :
    Calls Tryz.prog 157 #[.pointer (some ⟨br, 0, none⟩)] w (PAny B br bd off cap d most J (restW d) R p w) := by
  have HA0 : Hid (ASt d most out R [] p f) := ⟨hf, fun _ => hR, fun h => (by cases h)⟩
  have hbr := lt_of_block h.blk
  have hlen := h.cp
  have hlc := h.lc
  have HB0 : Hid ((w.alloc (.cells #[.int .u8 0, .int .u8 0, .int .u8 0, .int .u8 0, .int .u8 0] 184 (0, 0))).heap[w.heap.size]? = some (.cells (byteVals (pad5 [])).toArray 184 (0, 0))) := blk_new _ _
  have HR0 := hide (h.alloc (.cells #[.int .u8 0, .int .u8 0, .int .u8 0, .int .u8 0, .int .u8 0] 184 (0, 0)))
  clear h hf hR
  go_enter Tryz.func157, Tryz.ntmps157
  go_wp2
  go_loopw [7] (fun i wr => ∃ (D : List Nat) (q f : Nat), D.length ≤ 5 ∧ i = .int .i64 D.length ∧ wr.heap[w.heap.size]? = some (.cells (byteVals (pad5 D)).toArray 184 (0, 0)) ∧ Rd B br bd off cap d most wr q ov out ∧ p + D.length ≤ q ∧ Hid (∀ x ∈ D, 33 ≤ x ∧ x ≤ 117) ∧ Hid (ASt d most out R D q f) ∧ Kept 5 B [br] w wr) (fun i _ => 5 - (intOf i).toNat)
  case atStart => exact ⟨[], p, f, by simp, rfl, HB0.out, HR0.out, Nat.le_refl _, (fun x hx => (by cases hx)), HA0, (Kept.refl _ _ _ _).alloc _⟩
  clear HB0 HR0 HA0
  case round =>
    obtain ⟨D, q, f, hD5, rfl, hb, hr, hpq, HG, HS, kk⟩ := hrel
    have HL5 := hide (pad5_len hD5)
    have lit0 : (({ data := #[126, 62] } : ByteArray)[0]'(by decide)).toNat = 126 := rfl
    have lit1 : (({ data := #[126, 62] } : ByteArray)[1]'(by decide)).toNat = 62 := rfl
    have hbB := hr.hB
    have hBb := hr.hb
    obtain ⟨k, hk⟩ : ∃ k, D.length = k := ⟨_, rfl⟩
    have HK := hide hk
    by_cases hk5 : D.length < 5
    · have hcase := HS.out.case hk5 hr.lp
      unfold ACase at hcase
      rw [hk] at hk5 hcase hpq hD5 ⊢
      have hk5' : (k : Int) < 5 := by omega
      clear hk HS
      rcases hcase with ⟨hnone, hE⟩ | ⟨hlt, hcase⟩
      · have HN := hide (nextInk_none hr hnone)
        go_wp2_with fail
        refine HN.out.mono ?_
        rintro e w1 ⟨rfl, k1⟩
        exact ⟨rfl, Or.inr (Or.inr ⟨5, hE, rfl, kk.trans k1⟩)⟩
      · have HN := hide (nextInk_at hr hlt)
        have HBK := hide hb
        have HKK := hide kk
        clear hb kk hr
        obtain ⟨s, hs⟩ : ∃ s, skipW d q = s := ⟨_, rfl⟩
        have HSQ : Hid (q ≤ s) := by have := skipW_ge d q; rw [hs] at this; exact this
        rw [hs] at hcase hlt HN
        obtain ⟨C, hC⟩ : ∃ C, nth d s = C := ⟨_, rfl⟩
        rw [hC] at hcase HN
        clear hs hC
        rcases hcase with ⟨hc, hk0, ho, f', hf', hR'⟩ | ⟨hc, hk0, ho, hE⟩ | ⟨h33, h117, f', hA⟩ | ⟨hc, hs1, hE⟩ | ⟨hc, hs1, h62, hE⟩ | ⟨hc, hs1, h62, hcase⟩ | ⟨hc, hco, hz, hE⟩
        · have HQ : Hid (p < s + 1) := by have := HSQ.out; unfold Hid; omega
          obtain rfl : k = 0 := hk0
          have e1 : ((C : Int) == 126) = false := by simp; omega
          have e2 : ((C : Int) == 122) = true := by simp; omega
          clear hc
          go_wp2_with fail
          refine HN.out.mono ?_
          rintro e w1 ⟨rfl, r1, k1⟩
          have hb1 := k1.block w.heap.size _ (by simp; omega) HBK.out (Or.inr (by intro c fz e; simp at e))
          have HR1 := hide r1
          have K1 := hide (HKK.out.trans k1)
          clear r1 k1 HN hb1 HBK HKK
          go_wp2_with fail
          refine (put_ok (HR1.out.alloc (.cells #[.int .u8 0, .int .u8 0, .int .u8 0, .int .u8 0] 5)) [0, 0, 0, 0] ⟨w1.heap.size, 0, none⟩ 4 ho (by have := HR1.out.sz; simp; omega) (by
            intro i hi
            have h4 : i < 4 := hi
            rw [addr_add, cell_blk (blk_new _ _)]
            match i, h4 with
            | 0, _ => rfl
            | 1, _ => rfl
            | 2, _ => rfl
            | 3, _ => rfl)).mono ?_
          rintro e w2 ⟨rfl, ov', r2, k2⟩
          go_wp2
          go_ret
          exact Or.inl ⟨rfl, _, _, ov', HQ.out, HJ.out _ _ _ hf' hR', r2, (K1.out.alloc _).trans k2⟩
        · obtain rfl : k = 0 := hk0
          have e1 : ((C : Int) == 126) = false := by simp; omega
          have e2 : ((C : Int) == 122) = true := by simp; omega
          clear hc
          go_wp2_with fail
          refine HN.out.mono ?_
          rintro e w1 ⟨rfl, r1, k1⟩
          have hb1 := k1.block w.heap.size _ (by simp; omega) HBK.out (Or.inr (by intro c fz e; simp at e))
          have HR1 := hide r1
          have K1 := hide (HKK.out.trans k1)
          clear r1 k1 HN hb1 HBK HKK
          go_wp2_with fail
          refine (put_no (HR1.out.alloc (.cells #[.int .u8 0, .int .u8 0, .int .u8 0, .int .u8 0] 5)) 4 (some ⟨w1.heap.size, 0, none⟩) 4 (by omega) ho).mono ?_
          rintro e w2 ⟨rfl, z, rfl⟩
          exact ⟨rfl, Or.inr (Or.inr ⟨6, hE, rfl, (K1.out.alloc _).drewN z⟩)⟩
        · have e1 : ((C : Int) == 126) = false := by simp; omega
          have e2 : ((C : Int) == 122) = false := by simp; omega
          go_wp2_with fail
          refine HN.out.mono ?_
          rintro e w1 ⟨rfl, r1, k1⟩
          have hb1 := k1.block w.heap.size _ (by simp; omega) HBK.out (Or.inr (by intro c fz e; simp at e))
          obtain ⟨x, hx⟩ : ∃ x, w1.cell? ⟨w.heap.size, k, none⟩ = some x := by
            rw [cell_blk hb1]
            exact ⟨_, Array.getElem?_eq_getElem (by simp [byteVals, HL5.out]; omega)⟩
          have fx : w1.frozen? ⟨w.heap.size, k, none⟩ = false := free_blk hb1
          have HB2 : Hid ((w1.setCell ⟨w.heap.size, k, none⟩ (.int .u8 (C : Nat))).heap[w.heap.size]? = some (.cells (byteVals (pad5 (D ++ [C]))).toArray 184 (0, 0))) := by
            unfold Hid
            rw [blk_setCell _ hb1, ← pad5_step (by rw [HK.out]; omega) C, HK.out]
            exact congrArg (fun X => some (Obj.cells X 184 (0, 0))) (byteVals_set (pad5 D) k C)
          have HR2 := hide (r1.other (i := k) hb1 (by decide) (by omega) (by omega) (.int .u8 (C : Nat)))
          have HK2 := hide (Kept.setNew (HKK.out.trans k1) (q := ⟨w.heap.size, k, none⟩) (Nat.le_refl _) (.int .u8 (C : Nat)))
          have HAS := hide hA
          clear r1 k1 hb1 HBK HKK HN hA
          go_wp2_with (first | (go_at_call 216; refine (within_byte_yes _ _ _ _ (by omega) (by omega)).mono ?_; rintro e w' ⟨rfl, rfl⟩) | (go_at_call 163; refine (must_yes _).mono ?_; rintro e w' ⟨rfl, rfl⟩))
          go_roundw
          case rel =>
            have hl1 : (D ++ [C]).length = k + 1 := by rw [List.length_append, HK.out]; rfl
            refine ⟨D ++ [C], s + 1, f', by omega, by rw [hl1]; go_num, HB2.out, HR2.out, by have := HSQ.out; omega, ?_, HAS, HK2.out⟩
            intro y hy
            rcases List.mem_append.1 hy with hy | hy
            · exact HG.out y hy
            · rw [List.mem_singleton.1 hy]; exact ⟨h33, h117⟩
          case measure => simp [intOf]; omega
        · have e1 : ((C : Int) == 126) = true := by simp; omega
          clear hc
          go_wp2_with fail
          refine HN.out.mono ?_
          rintro e w1 ⟨rfl, r1, k1⟩
          have hb1 := k1.block w.heap.size _ (by simp; omega) HBK.out (Or.inr (by intro c fz e; simp at e))
          have K1 := hide (HKK.out.trans k1)
          have hsE : s + 1 = d.length := by have := r1.lp; omega
          rw [hsE] at r1
          have HN2 := hide (next_no (w := w1.drew) (r1.drewN 1))
          clear r1 k1 HBK HKK HN hb1
          go_wp2_with fail
          refine wp_region_T (fun _ _ => True) (by kernel_rfl) ?_
          intro hD
          have hS : (fun (_ : Array Bool) (_ : World) => True) (Array.replicate 5 false) w1.drew := trivial
          refine wpAnyT_take (i := 0) (v := ?_) rfl (by kernel_rfl) (by kernel_rfl) (by kernel_rfl) (fun _ _ _ h => h) (fun _ _ h => h) (fun _ _ h => h) hD (Or.inl ⟨by rfl, ?_⟩) hS ?_
          rotate_left
          · intro W hW; go_simp; try (with_reducible rfl)
          clear hD hS; intro hD hS; (try simp only [Act.put, List.setIfInBounds_toArray, List.set_cons_zero, List.set_cons_succ])
          refine wpAnyT_take (i := 2) (v := ?_) rfl (by kernel_rfl) (by kernel_rfl) (by kernel_rfl) (fun _ _ _ h => h) (fun _ _ h => h) (fun _ _ h => h) hD (Or.inl ⟨by rfl, ?_⟩) hS ?_
          rotate_left
          · intro W hW; go_simp; try (with_reducible rfl)
          clear hD hS; intro hD hS; (try simp only [Act.put, List.setIfInBounds_toArray, List.set_cons_zero, List.set_cons_succ])
          refine wpAnyT_one (i := 1) (by kernel_rfl) rfl hD (fun K' hK => ?_)
          go_simp
          refine HN2.out.mono ?_
          rintro e w2 ⟨rfl, k2⟩
          exact ⟨rfl, Or.inr (Or.inr ⟨5, hE, rfl, (K1.out.drew).trans k2⟩)⟩
        · have e1 : ((C : Int) == 126) = true := by simp; omega
          clear hc
          go_wp2_with fail
          refine HN.out.mono ?_
          rintro e w1 ⟨rfl, r1, k1⟩
          have hb1 := k1.block w.heap.size _ (by simp; omega) HBK.out (Or.inr (by intro c fz e; simp at e))
          have K1 := hide (HKK.out.trans k1)
          have HN2 := hide (next_ok (w := w1.drew) (r1.drewN 1) hs1)
          obtain ⟨C2, hC2⟩ : ∃ C2, nth d (s + 1) = C2 := ⟨_, rfl⟩
          rw [hC2] at HN2 h62
          have t2 : Hid (((C2 : Int) == 62) = false) := by unfold Hid; simp; omega
          clear r1 k1 HBK HKK HN hb1 hC2
          go_wp2_with fail
          refine wp_region_T (fun _ _ => True) (by kernel_rfl) ?_
          intro hD
          have hS : (fun (_ : Array Bool) (_ : World) => True) (Array.replicate 5 false) w1.drew := trivial
          refine wpAnyT_take (i := 0) (v := ?_) rfl (by kernel_rfl) (by kernel_rfl) (by kernel_rfl) (fun _ _ _ h => h) (fun _ _ h => h) (fun _ _ h => h) hD (Or.inl ⟨by rfl, ?_⟩) hS ?_
          rotate_left
          · intro W hW; go_simp; try (with_reducible rfl)
          clear hD hS; intro hD hS; (try simp only [Act.put, List.setIfInBounds_toArray, List.set_cons_zero, List.set_cons_succ])
          refine wpAnyT_take (i := 2) (v := ?_) rfl (by kernel_rfl) (by kernel_rfl) (by kernel_rfl) (fun _ _ _ h => h) (fun _ _ h => h) (fun _ _ h => h) hD (Or.inl ⟨by rfl, ?_⟩) hS ?_
          rotate_left
          · intro W hW; go_simp; try (with_reducible rfl)
          clear hD hS; intro hD hS; (try simp only [Act.put, List.setIfInBounds_toArray, List.set_cons_zero, List.set_cons_succ])
          refine wpAnyT_one (i := 1) (by kernel_rfl) rfl hD (fun K' hK => ?_)
          go_simp
          refine HN2.out.mono ?_
          rintro e w2 ⟨rfl, r2, k2⟩
          refine hK.out _ _ trivial (fun hD2 hS2 => ?_)
          clear hD hS hK K'
          have hD := hD2
          have hS := hS2
          clear hD2 hS2
          (try simp only [Act.put, List.setIfInBounds_toArray, List.set_cons_zero, List.set_cons_succ])
          refine wpAnyT_take (i := 3) (v := ?_) rfl (by kernel_rfl) (by kernel_rfl) (by kernel_rfl) (fun _ _ _ h => h) (fun _ _ h => h) (fun _ _ h => h) hD (Or.inl ⟨by rfl, ?_⟩) hS ?_
          rotate_left
          · intro W hW; go_simp; try (with_reducible rfl)
          clear hD hS; intro hD hS; (try simp only [Act.put, List.setIfInBounds_toArray, List.set_cons_zero, List.set_cons_succ])
          refine wpAnyT_one (i := 4) (by kernel_rfl) rfl hD (fun K' hK => ?_)
          go_simp
          refine (must_nob _ t2.out _).mono ?_
          rintro e w7 ⟨rfl, rfl⟩
          exact ⟨rfl, Or.inr (Or.inr ⟨5, hE, rfl, (K1.out.drew).trans k2⟩)⟩
        · rcases hcase with ⟨hk0, hE⟩ | ⟨hk1, hE⟩ | ⟨hk2, hbig, hE⟩ | ⟨hk2, hbig, ho, hE⟩ | ⟨hk2, hbig, ho, hE⟩
          · obtain rfl : k = 0 := hk0
            have e1 : ((C : Int) == 126) = true := by simp; omega
            clear hc
            go_wp2_with fail
            refine HN.out.mono ?_
            rintro e w1 ⟨rfl, r1, k1⟩
            have hb1 := k1.block w.heap.size _ (by simp; omega) HBK.out (Or.inr (by intro c fz e; simp at e))
            have HB1 := hide hb1
            have K1 := hide (HKK.out.trans k1)
            have HN2 := hide (next_ok (w := w1.drew) (r1.drewN 1) hs1)
            rw [h62] at HN2
            clear r1 k1 HBK HKK HN hb1
            go_wp2_with fail
            go_region_with (first | (go_at_call 214; refine HN2.out.mono ?_; rintro e w2 ⟨rfl, r2, k2⟩) | (go_at_call 163; refine (must_yes _).mono ?_; rintro e w' ⟨rfl, rfl⟩))
            all_goals (
              have HR2 := hide r2
              have hb2 := k2.block w.heap.size _ (by simp; omega) (show w1.drew.heap[w.heap.size]? = _ from HB1.out) (Or.inr (by intro c fz e; simp at e))
              have K2 := hide ((K1.out.drew).trans k2)
              have hcs := range_of_blk hb2
              have hi5 : Hid ((Tryz.prog.info? 184).map (·.size) = some (byteVals (pad5 D)).length) := by
                unfold Hid byteVals; rw [List.length_map, HL5.out]; kernel_rfl
              clear r2 k2 hb2
              have HPS : Hid (∀ W : World, Calls Tryz.prog 215 #[.pointer (some ⟨br, 0, none⟩), .agg (byteVals (pad5 D)).toArray, .int .i64 (0 : Nat)] W fun e w' => e = .returned (.tuple #[]) ∧ ∃ o, w' = W.alloc o) := fun W => by
                have := putShort_zero (br := br) (G := pad5 D) W
                rwa [show partly (pad5 D) 0 = pad5 D from by have := pad5_partly (D := D) (by rw [HK.out]; omega); rwa [HK.out] at this] at this
              go_wp2_with (refine wpList_load_mid rfl 184 (.tmp 3) rfl w.heap.size 0 rfl _ _ hcs.out Tryz.underlying184 rfl hi5.out ?_)
              refine (HPS.out _).mono ?_
              rintro e w3 ⟨rfl, o3, rfl⟩
              go_wp2
              go_ret
              exact Or.inr (Or.inl ⟨rfl, _, _, ov, hE, HR2.out.alloc o3, K2.out.alloc o3⟩))
          · obtain rfl : k = 1 := hk1
            have e1 : ((C : Int) == 126) = true := by simp; omega
            clear hc
            go_wp2_with fail
            refine HN.out.mono ?_
            rintro e w1 ⟨rfl, r1, k1⟩
            have hb1 := k1.block w.heap.size _ (by simp; omega) HBK.out (Or.inr (by intro c fz e; simp at e))
            have HB1 := hide hb1
            have K1 := hide (HKK.out.trans k1)
            have HN2 := hide (next_ok (w := w1.drew) (r1.drewN 1) hs1)
            rw [h62] at HN2
            clear r1 k1 HBK HKK HN hb1
            go_wp2_with fail
            go_region_with (first | (go_at_call 214; refine HN2.out.mono ?_; rintro e w2 ⟨rfl, r2, k2⟩) | (go_at_call 163; refine (must_yes _).mono ?_; rintro e w' ⟨rfl, rfl⟩))
            all_goals (
              have HR2 := hide r2
              have hb2 := k2.block w.heap.size _ (by simp; omega) (show w1.drew.heap[w.heap.size]? = _ from HB1.out) (Or.inr (by intro c fz e; simp at e))
              have K2 := hide ((K1.out.drew).trans k2)
              have hcs := range_of_blk hb2
              have hi5 : Hid ((Tryz.prog.info? 184).map (·.size) = some (byteVals (pad5 D)).length) := by
                unfold Hid byteVals; rw [List.length_map, HL5.out]; kernel_rfl
              clear r2 k2 hb2
              have HPS : Hid (∀ W : World, Calls Tryz.prog 215 #[.pointer (some ⟨br, 0, none⟩), .agg (byteVals (pad5 D)).toArray, .int .i64 (1 : Nat)] W fun e w' => e = gaveUp 5 ∧ Kept 5 B [br] W w') := fun W => putShort_one (B := B) (br := br) (A := pad5 D) W
              go_wp2_with (refine wpList_load_mid rfl 184 (.tmp 3) rfl w.heap.size 0 rfl _ _ hcs.out Tryz.underlying184 rfl hi5.out ?_)
              refine (HPS.out _).mono ?_
              rintro e w3 ⟨rfl, k3⟩
              exact ⟨rfl, Or.inr (Or.inr ⟨5, hE, rfl, K2.out.trans k3⟩)⟩)
          · have e1 : ((C : Int) == 126) = true := by simp; omega
            clear hc
            go_wp2_with fail
            refine HN.out.mono ?_
            rintro e w1 ⟨rfl, r1, k1⟩
            have hb1 := k1.block w.heap.size _ (by simp; omega) HBK.out (Or.inr (by intro c fz e; simp at e))
            have HB1 := hide hb1
            have K1 := hide (HKK.out.trans k1)
            have HN2 := hide (next_ok (w := w1.drew) (r1.drewN 1) hs1)
            rw [h62] at HN2
            clear r1 k1 HBK HKK HN hb1
            go_wp2_with fail
            go_region_with (first | (go_at_call 214; refine HN2.out.mono ?_; rintro e w2 ⟨rfl, r2, k2⟩) | (go_at_call 163; refine (must_yes _).mono ?_; rintro e w' ⟨rfl, rfl⟩))
            all_goals (
              have HR2 := hide r2
              have hb2 := k2.block w.heap.size _ (by simp; omega) (show w1.drew.heap[w.heap.size]? = _ from HB1.out) (Or.inr (by intro c fz e; simp at e))
              have K2 := hide ((K1.out.drew).trans k2)
              have hcs := range_of_blk hb2
              have hi5 : Hid ((Tryz.prog.info? 184).map (·.size) = some (byteVals (pad5 D)).length) := by
                unfold Hid byteVals; rw [List.length_map, HL5.out]; kernel_rfl
              clear r2 k2 hb2
              have hdig : ∀ i, i < k → 33 ≤ nth (pad5 D) i ∧ nth (pad5 D) i ≤ 117 := fun i hi => by
                rw [pad5_nth (by rw [HK.out]; exact hi)]
                have : nth D i = D[i]'(by rw [HK.out]; exact hi) := by simp [nth, List.getElem?_eq_getElem (show i < D.length by rw [HK.out]; exact hi)]
                rw [this]
                exact HG.out _ (List.getElem_mem _)
              have hpp : partly (pad5 D) k = pad5 D := by have := pad5_partly (D := D) (by rw [HK.out]; omega); rwa [HK.out] at this
              have hsv : shortV (nth (pad5 D) 0) (nth (pad5 D) 1) (nth (pad5 D) 2) (nth (pad5 D) 3) k = pad85 (a85V D 0) k := by
                have := pad5_short (D := D) (by rw [HK.out]; omega) (by rw [HK.out]; omega)
                rwa [HK.out] at this
              have HPS := hide (putShort_part_big HR2.out (pad5 D) HL5.out k hk2 (by omega) hdig _ hsv hbig)
              rw [hpp] at HPS
              clear hdig hpp hsv hbig
              go_wp2_with (refine wpList_load_mid rfl 184 (.tmp 3) rfl w.heap.size 0 rfl _ _ hcs.out Tryz.underlying184 rfl hi5.out ?_)
              refine HPS.out.mono ?_
              rintro e w3 ⟨rfl, k3⟩
              exact ⟨rfl, Or.inr (Or.inr ⟨5, hE, rfl, K2.out.trans k3⟩)⟩)
          · have e1 : ((C : Int) == 126) = true := by simp; omega
            clear hc
            go_wp2_with fail
            refine HN.out.mono ?_
            rintro e w1 ⟨rfl, r1, k1⟩
            have hb1 := k1.block w.heap.size _ (by simp; omega) HBK.out (Or.inr (by intro c fz e; simp at e))
            have HB1 := hide hb1
            have K1 := hide (HKK.out.trans k1)
            have HN2 := hide (next_ok (w := w1.drew) (r1.drewN 1) hs1)
            rw [h62] at HN2
            clear r1 k1 HBK HKK HN hb1
            go_wp2_with fail
            go_region_with (first | (go_at_call 214; refine HN2.out.mono ?_; rintro e w2 ⟨rfl, r2, k2⟩) | (go_at_call 163; refine (must_yes _).mono ?_; rintro e w' ⟨rfl, rfl⟩))
            all_goals (
              have HR2 := hide r2
              have hb2 := k2.block w.heap.size _ (by simp; omega) (show w1.drew.heap[w.heap.size]? = _ from HB1.out) (Or.inr (by intro c fz e; simp at e))
              have K2 := hide ((K1.out.drew).trans k2)
              have hcs := range_of_blk hb2
              have hi5 : Hid ((Tryz.prog.info? 184).map (·.size) = some (byteVals (pad5 D)).length) := by
                unfold Hid byteVals; rw [List.length_map, HL5.out]; kernel_rfl
              clear r2 k2 hb2
              have hdig : ∀ i, i < k → 33 ≤ nth (pad5 D) i ∧ nth (pad5 D) i ≤ 117 := fun i hi => by
                rw [pad5_nth (by rw [HK.out]; exact hi)]
                have : nth D i = D[i]'(by rw [HK.out]; exact hi) := by simp [nth, List.getElem?_eq_getElem (show i < D.length by rw [HK.out]; exact hi)]
                rw [this]
                exact HG.out _ (List.getElem_mem _)
              have hpp : partly (pad5 D) k = pad5 D := by have := pad5_partly (D := D) (by rw [HK.out]; omega); rwa [HK.out] at this
              have hsv : shortV (nth (pad5 D) 0) (nth (pad5 D) 1) (nth (pad5 D) 2) (nth (pad5 D) 3) k = pad85 (a85V D 0) k := by
                have := pad5_short (D := D) (by rw [HK.out]; omega) (by rw [HK.out]; omega)
                rwa [HK.out] at this
              have HPS := hide (putShort_part HR2.out (pad5 D) HL5.out k hk2 (by omega) hdig _ hsv hbig ho)
              rw [hpp] at HPS
              clear hdig hpp hsv hbig
              go_wp2_with (refine wpList_load_mid rfl 184 (.tmp 3) rfl w.heap.size 0 rfl _ _ hcs.out Tryz.underlying184 rfl hi5.out ?_)
              refine HPS.out.mono ?_
              rintro e w3 ⟨rfl, ov3, r3, k3⟩
              go_wp2
              go_ret
              exact Or.inr (Or.inl ⟨rfl, _, _, ov3, hE, r3, K2.out.trans k3⟩))
          · have e1 : ((C : Int) == 126) = true := by simp; omega
            clear hc
            go_wp2_with fail
            refine HN.out.mono ?_
            rintro e w1 ⟨rfl, r1, k1⟩
            have hb1 := k1.block w.heap.size _ (by simp; omega) HBK.out (Or.inr (by intro c fz e; simp at e))
            have HB1 := hide hb1
            have K1 := hide (HKK.out.trans k1)
            have HN2 := hide (next_ok (w := w1.drew) (r1.drewN 1) hs1)
            rw [h62] at HN2
            clear r1 k1 HBK HKK HN hb1
            go_wp2_with fail
            go_region_with (first | (go_at_call 214; refine HN2.out.mono ?_; rintro e w2 ⟨rfl, r2, k2⟩) | (go_at_call 163; refine (must_yes _).mono ?_; rintro e w' ⟨rfl, rfl⟩))
            all_goals (
              have HR2 := hide r2
              have hb2 := k2.block w.heap.size _ (by simp; omega) (show w1.drew.heap[w.heap.size]? = _ from HB1.out) (Or.inr (by intro c fz e; simp at e))
              have K2 := hide ((K1.out.drew).trans k2)
              have hcs := range_of_blk hb2
              have hi5 : Hid ((Tryz.prog.info? 184).map (·.size) = some (byteVals (pad5 D)).length) := by
                unfold Hid byteVals; rw [List.length_map, HL5.out]; kernel_rfl
              clear r2 k2 hb2
              have hdig : ∀ i, i < k → 33 ≤ nth (pad5 D) i ∧ nth (pad5 D) i ≤ 117 := fun i hi => by
                rw [pad5_nth (by rw [HK.out]; exact hi)]
                have : nth D i = D[i]'(by rw [HK.out]; exact hi) := by simp [nth, List.getElem?_eq_getElem (show i < D.length by rw [HK.out]; exact hi)]
                rw [this]
                exact HG.out _ (List.getElem_mem _)
              have hpp : partly (pad5 D) k = pad5 D := by have := pad5_partly (D := D) (by rw [HK.out]; omega); rwa [HK.out] at this
              have hsv : shortV (nth (pad5 D) 0) (nth (pad5 D) 1) (nth (pad5 D) 2) (nth (pad5 D) 3) k = pad85 (a85V D 0) k := by
                have := pad5_short (D := D) (by rw [HK.out]; omega) (by rw [HK.out]; omega)
                rwa [HK.out] at this
              have HPS := hide (putShort_part_no HR2.out (pad5 D) HL5.out k hk2 (by omega) hdig _ hsv hbig ho)
              rw [hpp] at HPS
              clear hdig hpp hsv hbig
              go_wp2_with (refine wpList_load_mid rfl 184 (.tmp 3) rfl w.heap.size 0 rfl _ _ hcs.out Tryz.underlying184 rfl hi5.out ?_)
              refine HPS.out.mono ?_
              rintro e w3 ⟨rfl, k3⟩
              exact ⟨rfl, Or.inr (Or.inr ⟨6, hE, rfl, K2.out.trans k3⟩)⟩)
        · by_cases h122 : C = 122
          · have hk0 : k ≠ 0 := fun h => hz ⟨h122, h⟩
            have e1 : ((C : Int) == 126) = false := by simp; omega
            have e2 : ((C : Int) == 122) = true := by simp; omega
            have e3 : ((k : Int) == 0) = false := by simp; omega
            go_wp2_with fail
            refine HN.out.mono ?_
            rintro e w1 ⟨rfl, r1, k1⟩
            have hb1 := k1.block w.heap.size _ (by simp; omega) HBK.out (Or.inr (by intro c fz e; simp at e))
            have K1 := hide (HKK.out.trans k1)
            have hco' : (C : Int) < 33 ∨ 117 < (C : Int) := by omega
            clear r1 k1 HN hb1 HBK HKK hco hc hz h122
            go_wp2_with fail
            refine (within_byte_no _ _ _ _ hco').mono ?_
            rintro e w' ⟨rfl, rfl⟩
            go_wp2_with fail
            refine (must_nob _ rfl _).mono ?_
            rintro e w' ⟨rfl, rfl⟩
            exact ⟨rfl, Or.inr (Or.inr ⟨5, hE, rfl, K1.out⟩)⟩
          · have e1 : ((C : Int) == 126) = false := by simp; omega
            have e2 : ((C : Int) == 122) = false := by simp; omega
            go_wp2_with fail
            refine HN.out.mono ?_
            rintro e w1 ⟨rfl, r1, k1⟩
            have hb1 := k1.block w.heap.size _ (by simp; omega) HBK.out (Or.inr (by intro c fz e; simp at e))
            have K1 := hide (HKK.out.trans k1)
            have hco' : (C : Int) < 33 ∨ 117 < (C : Int) := by omega
            clear r1 k1 HN hb1 HBK HKK hco hc hz h122
            go_wp2_with fail
            refine (within_byte_no _ _ _ _ hco').mono ?_
            rintro e w' ⟨rfl, rfl⟩
            go_wp2_with fail
            refine (must_nob _ rfl _).mono ?_
            rintro e w' ⟨rfl, rfl⟩
            exact ⟨rfl, Or.inr (Or.inr ⟨5, hE, rfl, K1.out⟩)⟩
    · have hk5e : D.length = 5 := by omega
      have hfull := HS.out.2.2 hk5e
      have HFQ := hide HS.out.1
      rw [hk5e]
      obtain ⟨g0, g1, g2, g3, g4, rfl⟩ : ∃ g0 g1 g2 g3 g4, D = [g0, g1, g2, g3, g4] := by
        match D, hk5e with
        | [g0, g1, g2, g3, g4], _ => exact ⟨g0, g1, g2, g3, g4, rfl⟩
      have G0 := HG.out g0 (by simp)
      have G1 := HG.out g1 (by simp)
      have G2 := HG.out g2 (by simp)
      have G3 := HG.out g3 (by simp)
      have G4 := HG.out g4 (by simp)
      obtain ⟨V, hV⟩ : ∃ V, a85V [g0, g1, g2, g3, g4] 0 = V := ⟨_, rfl⟩
      rw [hV] at hfull
      have hpp : pad5 [g0, g1, g2, g3, g4] = [g0, g1, g2, g3, g4] := by simp [pad5]
      have hpq5 : p < q := by simp at hpq; omega
      have hcs := range_of_blk hb
      have hi5 : Hid ((Tryz.prog.info? 184).map (·.size) = some (byteVals (pad5 [g0, g1, g2, g3, g4])).length) := by
        unfold Hid byteVals; rw [List.length_map, HL5.out]; kernel_rfl
      have KK := hide kk
      have HR := hide hr
      clear hb kk hr hk HK HS HG hpq hD5 hk5 hk5e
      by_cases cV : 4294967296 ≤ V
      · rw [if_pos cV] at hfull
        have HAB : Hid (∀ W : World, Calls Tryz.prog 217 #[.agg (byteVals (pad5 [g0, g1, g2, g3, g4])).toArray] W fun e w' => e = gaveUp 5 ∧ Below W.heap.size W w') := by
          rw [hpp]
          exact fun W => a85Bytes_no g0 g1 g2 g3 g4 G0 G1 G2 G3 G4 V hV (by omega) W
        have HF := hide hfull
        clear hfull hV G0 G1 G2 G3 G4 hpp
        generalize pad5 [g0, g1, g2, g3, g4] = A at *
        go_wp2_with (refine wpList_load_mid rfl 184 (.tmp 3) rfl w.heap.size 0 rfl _ _ hcs.out Tryz.underlying184 rfl hi5.out ?_)
        refine (HAB.out _).mono ?_
        rintro e w1 ⟨rfl, b1⟩
        exact ⟨rfl, Or.inr (Or.inr ⟨5, HF.out, rfl, KK.out.trans (Kept.ofBelow' b1)⟩)⟩
      · rw [if_neg cV] at hfull
        have HAB : Hid (∀ W : World, Calls Tryz.prog 217 #[.agg (byteVals (pad5 [g0, g1, g2, g3, g4])).toArray] W fun e w' => e = .returned (.agg #[.int .u8 (V / 16777216 : Nat), .int .u8 (V / 65536 % 256 : Nat), .int .u8 (V / 256 % 256 : Nat), .int .u8 (V % 256 : Nat)]) ∧ Below W.heap.size W w') := by
          rw [hpp]
          exact fun W => a85Bytes_ok g0 g1 g2 g3 g4 G0 G1 G2 G3 G4 V hV (by omega) W
        have HF := hide hfull
        clear hfull hV G0 G1 G2 G3 G4 hpp
        generalize pad5 [g0, g1, g2, g3, g4] = A at *
        go_wp2_with (refine wpList_load_mid rfl 184 (.tmp 3) rfl w.heap.size 0 rfl _ _ hcs.out Tryz.underlying184 rfl hi5.out ?_)
        refine (HAB.out _).mono ?_
        rintro e w1 ⟨rfl, b1⟩
        have HR1 := hide (HR.out.ofBelow b1)
        have K1 := hide (KK.out.trans (Kept.ofBelow' b1))
        clear HR KK b1 HAB hcs hi5
        by_cases ho : out.length + 4 ≤ most
        · have HP := hide (put_ok (HR1.out.alloc (.cells #[.int .u8 (V / 16777216 : Nat), .int .u8 (V / 65536 % 256 : Nat), .int .u8 (V / 256 % 256 : Nat), .int .u8 (V % 256 : Nat)] 153)) (a85Out V) ⟨w1.heap.size, 0, none⟩ 4 ho (by have := HR1.out.sz; simp; omega) (by
            intro i hi
            have h4 : i < 4 := hi
            rw [addr_add, cell_blk (blk_new _ _)]
            match i, h4 with
            | 0, _ => rfl
            | 1, _ => rfl
            | 2, _ => rfl
            | 3, _ => rfl))
          have hl4 : (a85Out V).length = 4 := rfl
          rw [hl4] at HP
          have HJ2 := hide (HJ.out q (out ++ a85Out V) f HFQ.out (by rw [HF.out, if_pos ho]))
          go_wp2_with fail
          refine HP.out.mono ?_
          rintro e w2 ⟨rfl, ov', r2, k2⟩
          go_wp2
          go_ret
          exact Or.inl ⟨rfl, _, _, ov', hpq5, HJ2.out, r2, (K1.out.alloc _).trans k2⟩
        · have HP := hide (put_no (HR1.out.alloc (.cells #[.int .u8 (V / 16777216 : Nat), .int .u8 (V / 65536 % 256 : Nat), .int .u8 (V / 256 % 256 : Nat), .int .u8 (V % 256 : Nat)] 153)) 4 (some ⟨w1.heap.size, 0, none⟩) 4 (by omega) (by omega))
          have HF6 : Hid (R = .error 6) := by unfold Hid; rw [HF.out, if_neg ho]
          go_wp2_with fail
          refine HP.out.mono ?_
          rintro e w2 ⟨rfl, z, rfl⟩
          exact ⟨rfl, Or.inr (Or.inr ⟨6, HF6.out, rfl, (K1.out.alloc _).drewN z⟩)⟩
end Go.Proofs.YtgkljcmjnphpeaaGreatDoor
namespace Go.Proofs.YtgkljcmjnphpeaaGreatDoor
open Go.RowKit
variable {B br bd off cap : Nat} {d : List Nat} {most : Nat} {w : World} {p : Nat} {ov : Value} {out : List Nat}
theorem decodeA85_says (h : Rd B br bd off cap d most w 0 ov []) :
    Calls Tryz.prog 114 #[.pointer (some ⟨br, 0, none⟩)] w fun e w' => DRes B br bd off cap d most w (a85Dec d most (d.length + 1) 0 0 0 []) e w' := by
  refine decodeA85_dyn (J := fun q o R => ∃ f, d.length - q < f ∧ a85Dec d most f q 0 0 o = R) (fun q o W v hJ hr => ?_) ⟨d.length + 1, by omega, rfl⟩ h
  obtain ⟨f, hf, hR⟩ := hJ
  exact a85Group_any (hide (fun q o f hf hR => ⟨f, hf, hR⟩)) hr hf hR
end Go.Proofs.YtgkljcmjnphpeaaGreatDoor
