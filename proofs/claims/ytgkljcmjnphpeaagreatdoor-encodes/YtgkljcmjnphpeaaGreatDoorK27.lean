/- Filter 4 read: a block's own codes: the walk. -/
import Derived.Test.YtgkljcmjnphpeaaGreatDoorK26
set_option linter.unusedVariables false
set_option linter.unusedSimpArgs false
namespace Go.Proofs.YtgkljcmjnphpeaaGreatDoor
open Go.RowKit
variable {B br bf bd off cap : Nat} {d : List Nat} {most : Nat} {fixed : List Value} {w : World} {p held left window : Nat} {ov : Value} {out : List Nat}
set_option maxRecDepth 100000 in
set_option maxHeartbeats 2000000 in
theorem own_long {r : List Bool} (h : Fl B br bf bd off cap d most fixed w r window ov out) (hord : OrdW w) (hG : 1 < B) (hr : 14 ≤ r.length) :
    Calls Tryz.prog 224 #[.pointer (some ⟨bf, 0, none⟩)] w (OwRes B br bf bd off cap d most fixed window ov out w r) := by
  have hlt := h.lt
  have hGS : 1 ∉ [br, bf] := by simp; omega
  have HOR := hide hord
  have hbdw : bd < w.heap.size := by obtain ⟨p, held, left, hb, _, _⟩ := h; have := hb.rd.hB; omega
  obtain ⟨va, hva⟩ : ∃ va, Fo.val (r.take 5) = va := ⟨_, rfl⟩
  obtain ⟨vb, hvb⟩ : ∃ vb, Fo.val ((r.drop 5).take 5) = vb := ⟨_, rfl⟩
  obtain ⟨vc, hvc⟩ : ∃ vc, Fo.val (((r.drop 5).drop 5).take 4) = vc := ⟨_, rfl⟩
  have hva32 : va < 32 := by
    have := Fo.val_lt (r.take 5)
    rw [hva, List.length_take, Nat.min_eq_left (by omega)] at this
    exact this
  have hvb32 : vb < 32 := by
    have := Fo.val_lt ((r.drop 5).take 5)
    rw [hvb, List.length_take, List.length_drop, Nat.min_eq_left (by omega)] at this
    exact this
  have hvc16 : vc < 16 := by
    have := Fo.val_lt (((r.drop 5).drop 5).take 4)
    rw [hvc, List.length_take, List.length_drop, List.length_drop, Nat.min_eq_left (by omega)] at this
    exact this
  have HHA : Hid (Fo.headA r = 257 + va) := by unfold Hid Fo.headA; rw [hva]
  have HHB : Hid (Fo.headB r = 1 + vb) := by unfold Hid Fo.headB; rw [hvb]
  have HHC : Hid (Fo.headC r = 4 + vc) := by unfold Hid Fo.headC; rw [← hvc, List.drop_drop]
  have HVB := hide hvb
  have HVC := hide hvc
  clear hvb hvc hord
  have F0 := hide (h.alloc zero34)
  have K0 := hide ((Kept.refl 5 B [br, bf] w).alloc zero34)
  obtain ⟨W0, hW0⟩ : ∃ W0, w.alloc zero34 = W0 := ⟨_, rfl⟩
  rw [hW0] at F0 K0
  have hW0' : w.alloc (.cells #[.int .i64 0, .int .i64 0, .int .i64 0, .int .i64 0, .int .i64 0, .int .i64 0, .int .i64 0, .int .i64 0, .int .i64 0, .int .i64 0, .int .i64 0, .int .i64 0, .int .i64 0, .int .i64 0, .int .i64 0, .int .i64 0, .slice none 0 0, .int .i64 0, .int .i64 0, .int .i64 0, .int .i64 0, .int .i64 0, .int .i64 0, .int .i64 0, .int .i64 0, .int .i64 0, .int .i64 0, .int .i64 0, .int .i64 0, .int .i64 0, .int .i64 0, .int .i64 0, .int .i64 0, .slice none 0 0] 164) = W0 := hW0
  have HW0 := hide hW0'
  clear hW0' hW0 h
  go_enter Tryz.func224, Tryz.ntmps224
  go_wp2_with fail
  rw [HW0.out]
  have tok1 : True := trivial
  have tok2 : True := trivial
  have HB1 := hide (bits_ok (w := W0.drew) 5 (by omega) (show 5 ≤ r.length by omega) F0.out.drew)
  rw [hva] at HB1
  go_region_with (first | (go_at_call 221; have _t := tok1; refine HB1.out.mono ?_; rintro e w1 ⟨rfl, f1, k1⟩; clear tok1; have HB2 := hide (bits_ok 5 (by omega) (show 5 ≤ (r.drop 5).length by rw [List.length_drop]; omega) f1); rw [HVB.out] at HB2) | (go_at_call 221; have _t := tok2; refine HB2.out.mono ?_; rintro e w2 ⟨rfl, f2, k2⟩; clear tok2; have HB3 := hide (bits_ok 4 (by omega) (show 4 ≤ ((r.drop 5).drop 5).length by rw [List.length_drop, List.length_drop]; omega) f2); rw [HVC.out] at HB3) | (go_at_call 221; refine HB3.out.mono ?_; rintro e w3 ⟨rfl, f3, k3⟩))
  all_goals (
    have KZ := hide ((((Kept.refl 5 B [br, bf] W0).drew).trans k1).trans (k2.trans k3))
    have K3 := hide (K0.out.trans KZ.out)
    rw [List.drop_drop, List.drop_drop] at f3
    have F3 := hide f3
    have O3 := hide (HOR.out.kept K3.out hG hGS)
    clear k1 k2 k3 f1 f2 f3 HB1 HB2 HB3 F0 HOR
    by_cases cab : va ≤ 29 ∧ vb ≤ 29
    · have ca : (va : Int) ≤ 29 := by omega
      have cb : (vb : Int) ≤ 29 := by omega
      go_wp2_with (first | (go_at_call 63; refine (within_int_yes _ _ _ _ (by omega) (by omega)).mono ?_; rintro e w' ⟨rfl, rfl⟩) | (go_at_call 163; refine (must_yes _).mono ?_; rintro e w' ⟨rfl, rfl⟩))
      obtain ⟨res, hRes⟩ : ∃ res, Fo.ownHead r = res := ⟨_, rfl⟩
      have HRES := hide hRes
      have hln : Fo.lensOf (r.drop (5 + (5 + 4))) (4 + vc) (257 + va + (1 + vb)) = res := by
        rw [← hRes, Fo.ownHead_lens, if_neg (by omega), HHA.out, HHB.out, HHC.out, if_neg (by omega)]
      have HLS := hide hln
      have HLN := hide (lengths_any F3.out O3.out hG (4 + vc) (257 + va + (1 + vb)) (by omega) (by omega) hln)
      have en1 : ((4 + vc : Nat) : Int) = 4 + (vc : Int) := by omega
      have en2 : ((257 + va + (1 + vb) : Nat) : Int) = 257 + (va : Int) + (1 + (vb : Int)) := by omega
      rw [en1, en2] at HLN
      clear hRes hln en1 en2 F3 O3
      refine HLN.out.mono ?_
      intro e w4 hres4
      cases res with
      | none =>
        obtain ⟨rfl, k4⟩ := hres4
        exact ⟨rfl, Or.inl ⟨Or.inl HRES.out, rfl, K3.out.trans k4⟩⟩
      | some x =>
        obtain ⟨r', L⟩ := x
        obtain ⟨v, rfl, o4, f4, k4⟩ := hres4
        obtain ⟨hLl, hLs⟩ := lensOf_small HLS.out
        obtain ⟨A, hA⟩ : ∃ A, 257 + va = A := ⟨_, rfl⟩
        obtain ⟨g, c, rfl, hg4⟩ := own_form o4 (by omega)
        have hx0 := o4.cellAt 256 (by omega)
        rw [show (ints L)[256]? = some (.int .i64 (nth L 256 : Nat)) from ints_get L 256 (by omega)] at hx0
        have hx : w4.cell? ⟨g, 256, none⟩ = some (.int .i64 (nth L 256 : Nat)) := by simpa using hx0
        clear hx0
        have hg4b : g < w4.heap.size := by obtain ⟨_, cu, fzz, hbb⟩ := own_row o4 g rfl; exact lt_of_block hbb
        have hcap : L.length ≤ c ∧ c ≤ 9223372036854775807 := own_capI o4
        have HCL : Hid (∀ i, i < L.length → w4.cell? ⟨g, i, none⟩ = some (.int .i64 (nth L i : Nat))) := fun i hi => by
          have hy := o4.cellAt i (by omega)
          rw [show (ints L)[i]? = some (.int .i64 (nth L i : Nat)) from ints_get L i hi] at hy
          simpa using hy
        have HAA : Hid (Fo.headA r = A) := by unfold Hid; rw [HHA.out, hA]
        have KZ4 := hide (KZ.out.trans k4)
        have F4 := hide f4
        have hA1 : (257 : Int) + (va : Int) = (A : Int) := by omega
        have hA2 : A ≤ L.length := by omega
        have hA3 : 256 < A := by omega
        have hAL : A < L.length := by omega
        have HLL := hide hLl
        have HLS2 := hide hLs
        have hl256 : (256 : Int) < L.length := by omega
        have hl400 : L.length ≤ A + 30 := by omega
        have hA4 : A ≤ 286 := by omega
        rw [hA1]
        obtain ⟨X, hX⟩ : ∃ X, nth L 256 = X := ⟨_, rfl⟩
        rw [hX] at hx
        have HX := hide hX
        clear hX hLl hLs o4 f4 k4 KZ HLS HLN hA hA1 HHA HHB HHC
        by_cases cX : X = 0
        · have hbad : ¬ Fo.ownGood L (Fo.headA r) := fun h => h.2.1 (by rw [HX.out]; exact cX)
          subst cX
          go_wp2_with fail
          refine (must_nob _ rfl _).mono ?_
          rintro e w5 ⟨rfl, rfl⟩
          exact ⟨rfl, Or.inl ⟨Or.inr ⟨r', L, HRES.out, hbad⟩, rfl, K0.out.trans KZ4.out⟩⟩
        · have cX' : (0 : Int) < X := by omega
          go_wp2_with (go_at_call 163; refine (must_yesb _ (by simp; omega) _).mono ?_; rintro e w5 ⟨rfl, rfl⟩)
          have hcA : (A : Int) ≤ c := by omega
          have hcA0 : (0 : Int) ≤ (A : Int) := by omega
          have hcL : (A : Int) ≤ L.length := by omega
          have hcLc : (L.length : Int) ≤ c := by omega
          have hT1 : (L.take A).length = A := by rw [List.length_take]; omega
          have hT2 : (L.drop A).length = L.length - A := List.length_drop
          have s1 : ∀ i, i < (L.take A).length → nth (L.take A) i < 16 := fun i hi => nthLt (fun x hx => HLS2.out x (List.mem_of_mem_take hx)) i hi
          have s2 : ∀ i, i < (L.drop A).length → nth (L.drop A) i < 16 := fun i hi => nthLt (fun x hx => HLS2.out x (List.mem_of_mem_drop hx)) i hi
          have n1 : ∀ i, i < A → nth (L.take A) i = nth L i := fun i hi => by simp [nth, List.getElem?_take, hi]
          have n2 : ∀ i, nth (L.drop A) i = nth L (A + i) := fun i => by simp [nth, List.getElem?_drop]
          have HC1 : Hid (∀ W : World, Below w5.heap.size w5 W → Calls Tryz.prog 219 #[.slice (some ⟨g, 0, none⟩) A c] W fun e w' => ∃ g1, e = .returned (.agg (codeCells (L.take A) g1).toArray) ∧ IntRow w' g1 (Fo.ssOf (L.take A)) ∧ Below W.heap.size W w' ∧ W.heap.size ≤ g1) := fun W bW => by
            have := codesOf_ok (w := W) g 0 c (L.take A) s1 (by omega) (Nat.lt_of_lt_of_le hg4b bW.size) (fun i hi => by rw [Nat.zero_add, n1 i (by omega), bW.cell (p := ⟨g, i, none⟩) hg4b]; exact HCL.out i (by omega))
            rw [hT1] at this
            unfold Fo.ssOf
            rw [hT1]
            exact this
          have HC2 : Hid (∀ W : World, Below w5.heap.size w5 W → Calls Tryz.prog 219 #[.slice (some ⟨g, A, none⟩) (L.length - A) (c - A)] W fun e w' => ∃ g1, e = .returned (.agg (codeCells (L.drop A) g1).toArray) ∧ IntRow w' g1 (Fo.ssOf (L.drop A)) ∧ Below W.heap.size W w' ∧ W.heap.size ≤ g1) := fun W bW => by
            have := codesOf_ok (w := W) g A (c - A) (L.drop A) s2 (by omega) (Nat.lt_of_lt_of_le hg4b bW.size) (fun i hi => by rw [n2 i, bW.cell (p := ⟨g, A + i, none⟩) hg4b]; exact HCL.out (A + i) (by omega))
            rw [hT2] at this
            unfold Fo.ssOf
            rw [hT2]
            exact this
          have S1 := hide s1
          have S2 := hide s2
          have HT2 := hide hT2
          clear s1 s2 n1 n2 hT1 hT2 HCL HLS2
          have hcAL : (A : Int) < L.length := by omega
          have hcne : ¬ c = A := by omega
          go_upto_region 6 with fail
          go_cut [9] from 45 (fun u9 wx => ∃ bo g1 g2, u9 = .pointer (some ⟨bo, 0, none⟩) ∧ Hid (wx.heap[bo]? = some (.cells (ownCells (L.take A) (L.drop A) g1 g2).toArray 164 (0, 0))) ∧ Hid (IntRow wx g1 (Fo.ssOf (L.take A))) ∧ Hid (IntRow wx g2 (Fo.ssOf (L.drop A))) ∧ Hid (Below w5.heap.size w5 wx))
          case first =>
            refine wp_region_T (fun _ _ => True) (by kernel_rfl) ?_
            intro hD
            have hS : (fun (_ : Array Bool) (_ : World) => True) (Array.replicate 11 false) w5.drew := trivial
            refine wpAnyT_take (i := 0) (v := ?_) rfl (by kernel_rfl) (by kernel_rfl) (by kernel_rfl) (fun _ _ _ h => h) (fun _ _ h => h) (fun _ _ h => h) hD (Or.inl ⟨by rfl, ?_⟩) hS ?_
            rotate_left
            · intro W hW; go_simp; try (with_reducible rfl)
            clear hD hS; intro hD hS; (try simp only [Act.put, List.setIfInBounds_toArray, List.set_cons_zero, List.set_cons_succ])
            refine wpAnyT_take (i := 1) (v := ?_) rfl (by kernel_rfl) (by kernel_rfl) (by kernel_rfl) (fun _ _ _ h => h) (fun _ _ h => h) (fun _ _ h => h) hD (Or.inl ⟨by rfl, ?_⟩) hS ?_
            rotate_left
            · intro W hW; go_simp; try (with_reducible rfl)
            clear hD hS; intro hD hS; (try simp only [Act.put, List.setIfInBounds_toArray, List.set_cons_zero, List.set_cons_succ])
            refine wpAnyT_take (i := 2) (v := ?_) rfl (by kernel_rfl) (by kernel_rfl) (by kernel_rfl) (fun _ _ _ h => h) (fun _ _ h => h) (fun _ _ h => h) hD (Or.inl ⟨by rfl, ?_⟩) hS ?_
            rotate_left
            · intro W hW; go_simp; try (with_reducible rfl)
            clear hD hS; intro hD hS; (try simp only [Act.put, List.setIfInBounds_toArray, List.set_cons_zero, List.set_cons_succ])
            refine wpAnyT_take (i := 4) (v := ?_) rfl (by kernel_rfl) (by kernel_rfl) (by kernel_rfl) (fun _ _ _ h => h) (fun _ _ h => h) (fun _ _ h => h) hD (Or.inl ⟨by rfl, ?_⟩) hS ?_
            rotate_left
            · intro W hW; go_simp; try (with_reducible rfl)
            clear hD hS; intro hD hS; (try simp only [Act.put, List.setIfInBounds_toArray, List.set_cons_zero, List.set_cons_succ])
            refine wpAnyT_take (i := 5) (v := ?_) rfl (by kernel_rfl) (by kernel_rfl) (by kernel_rfl) (fun _ _ _ h => h) (fun _ _ h => h) (fun _ _ h => h) hD (Or.inl ⟨by rfl, ?_⟩) hS ?_
            rotate_left
            · intro W hW; go_simp; try (with_reducible rfl)
            clear hD hS; intro hD hS; (try simp only [Act.put, List.setIfInBounds_toArray, List.set_cons_zero, List.set_cons_succ])
            refine wpAnyT_take (i := 6) (v := ?_) rfl (by kernel_rfl) (by kernel_rfl) (by kernel_rfl) (fun _ _ _ h => h) (fun _ _ h => h) (fun _ _ h => h) hD (Or.inl ⟨by rfl, ?_⟩) hS ?_
            rotate_left
            · intro W hW; go_simp; try (with_reducible rfl)
            clear hD hS; intro hD hS; (try simp only [Act.put, List.setIfInBounds_toArray, List.set_cons_zero, List.set_cons_succ])
            have BW0 : Below w5.heap.size w5 w5.drew := ⟨rfl, rfl, rfl, Nat.le_refl _, fun _ _ => rfl⟩
            refine wpAnyT_two (i := 3) (j := 9) (by kernel_rfl) rfl rfl hD (fun K' hK => ?_) (fun K' hK => ?_)
            · go_simp
              refine (HC1.out _ BW0).mono ?_
              rintro e w6 ⟨g1, rfl, ir1, b6, hgg1⟩
              refine hK.out _ _ trivial (fun hD2 hS2 => ?_)
              clear hD hS hK K'
              have hD := hD2
              have hS := hS2
              clear hD2 hS2
              (try simp only [Act.put, List.setIfInBounds_toArray, List.set_cons_zero, List.set_cons_succ])
              have BW1 : Below w5.heap.size w5 w6 := BW0.trans (b6.mono BW0.size)
              refine wpAnyT_two (i := 7) (j := 9) (by kernel_rfl) rfl rfl hD (fun K' hK => ?_) (fun K' hK => ?_)
              · go_simp
                refine (HC2.out _ BW1).mono ?_
                rintro e w7 ⟨g2, rfl, ir2, b7, hgg2⟩
                refine hK.out _ _ trivial (fun hD2 hS2 => ?_)
                clear hD hS hK K'
                have hD := hD2
                have hS := hS2
                clear hD2 hS2
                (try simp only [Act.put, List.setIfInBounds_toArray, List.set_cons_zero, List.set_cons_succ])
                have BW2 : Below w5.heap.size w5 w7 := BW1.trans (b7.mono BW1.size)
                have ir1 : IntRow w7 g1 (Fo.ssOf (L.take A)) := by
                  obtain ⟨cc, fz, hb, hc⟩ := ir1
                  exact ⟨cc, fz, by rw [b7.block _ (lt_of_block hb)]; exact hb, hc⟩
                refine wpAnyT_take (i := 8) (v := .agg (ownCells (L.take A) (L.drop A) g1 g2).toArray) rfl (by kernel_rfl) (by kernel_rfl) (by kernel_rfl) (fun _ _ _ h => h) (fun _ _ h => h) (fun _ _ h => h) hD (Or.inl ⟨by rfl, ?_⟩) hS ?_
                · intro W hW
                  have hbuild := run_build54 (codeCells (L.take A) g1) (codeCells (L.drop A) g2) (codeCells_len _ _) (codeCells_len _ _) W
                  exact exec_build2 164 0 1 (.tmp 48) (.tmp 52) rfl rfl rfl hbuild
                clear hD hS; intro hD hS; (try simp only [Act.put, List.getElem_toArray, List.getElem_cons_zero, List.getElem_cons_succ, List.setIfInBounds_toArray, List.set_cons_zero, List.set_cons_succ])
                refine wpAnyT_one (i := 9) (by kernel_rfl) rfl hD (fun K' hK => ?_)
                go_simp
                refine hK.out _ _ trivial (fun hD2 hS2 => ?_)
                clear hD hS hK K'
                have hD := hD2
                have hS := hS2
                clear hD2 hS2
                (try simp only [Act.put, List.setIfInBounds_toArray, List.set_cons_zero, List.set_cons_succ])
                generalize hWx : World.alloc w7 _ = w8 at hS ⊢
                have hWz : World.alloc w7 zero34 = w8 := hWx
                obtain ⟨bo, hbo⟩ : ∃ x, w7.heap.size = x := ⟨_, rfl⟩
                have Zbo : w8.heap[bo]? = some zero34 := by rw [← hWz, ← hbo]; exact blk_new _ _
                have BW3 : Below w5.heap.size w5 w8 := by rw [← hWz]; exact BW2.alloc BW2.size _
                have zb : w5.heap.size ≤ bo := by rw [← hbo]; exact BW2.size
                (try rw [hbo])
                have ir1 : IntRow w8 g1 (Fo.ssOf (L.take A)) := by
                  obtain ⟨cc, fz, hb, hc⟩ := ir1
                  exact ⟨cc, fz, by rw [← hWz]; exact blk_alloc _ hb, hc⟩
                have ir2 : IntRow w8 g2 (Fo.ssOf (L.drop A)) := by
                  obtain ⟨cc, fz, hb, hc⟩ := ir2
                  exact ⟨cc, fz, by rw [← hWz]; exact blk_alloc _ hb, hc⟩
                clear hWx hWz hbo
                have hone : (ownCells (L.take A) (L.drop A) g1 g2).toArray.all (·.oneCell') = true := by simp [ownCells, codeCells, ints, Value.oneCell']
                have hsz34 : (ownCells (L.take A) (L.drop A) g1 g2).length = 34 := by rw [ownCells, List.length_append, codeCells_len, codeCells_len]
                have hszA : (ownCells (L.take A) (L.drop A) g1 g2).toArray.size = 34 := List.size_toArray.trans hsz34
                have hi34 : Hid ((Tryz.prog.info? 164).map (·.size) = some (ownCells (L.take A) (L.drop A) g1 g2).toArray.size) := by unfold Hid; rw [hszA]; kernel_rfl
                have ht34 : Hid (w8.there bo 0 (ownCells (L.take A) (L.drop A) g1 g2).toArray.size) := by unfold Hid; rw [hszA]; exact there34 Zbo
                have hrow : Hid ((w8.setCells bo 0 (ownCells (L.take A) (L.drop A) g1 g2)).heap[bo]? = some (.cells (ownCells (L.take A) (L.drop A) g1 g2).toArray 164 (0, 0))) := setCells_whole Zbo (by rw [hsz34]; rfl)
                have hne1 : g1 ≠ bo := fun e => by obtain ⟨cc, fz, hb, _⟩ := ir1; rw [e, Zbo] at hb; simp [zero34] at hb
                have hne2 : g2 ≠ bo := fun e => by obtain ⟨cc, fz, hb, _⟩ := ir2; rw [e, Zbo] at hb; simp [zero34] at hb
                have hq1 : Hid (IntRow (w8.setCells bo 0 (ownCells (L.take A) (L.drop A) g1 g2)) g1 (Fo.ssOf (L.take A))) := by
                  obtain ⟨cc, fz, hb, hc⟩ := ir1
                  exact ⟨cc, fz, by rw [setCells_ne _ hne1]; exact hb, hc⟩
                have hq2 : Hid (IntRow (w8.setCells bo 0 (ownCells (L.take A) (L.drop A) g1 g2)) g2 (Fo.ssOf (L.drop A))) := by
                  obtain ⟨cc, fz, hb, hc⟩ := ir2
                  exact ⟨cc, fz, by rw [setCells_ne _ hne2]; exact hb, hc⟩
                have hq3 : Hid (Below w5.heap.size w5 (w8.setCells bo 0 (ownCells (L.take A) (L.drop A) g1 g2))) := setCells_below _ _ zb _ _ _ _ BW3
                refine wpAnyT_one (i := 10) (by kernel_rfl) rfl hD (fun K' hK => ?_)
                refine iteTrue rfl ?_
                refine wp_store_mid 164 (.tmp 9) (.tmp 53) rfl bo 0 (ownCells (L.take A) (L.drop A) g1 g2).toArray rfl rfl ht34.out hi34.out hone ?_
                refine hK.out _ _ trivial (fun hD2 hS2 => ?_)
                clear hD hS hK K' hD2 hS2
                refine wpAnyT_done (by kernel_rfl) ?_ _
                generalize hWS : World.setCells _ bo 0 (ownCells (L.take A) (L.drop A) g1 g2).toArray.toList = WS
                have hWS' : w8.setCells bo 0 (ownCells (L.take A) (L.drop A) g1 g2) = WS := hWS
                rw [hWS'] at hrow hq1 hq2 hq3
                clear hWS hWS' ht34 hi34 hone hsz34 hszA hne1 hne2 ir1 ir2 BW0 BW1 BW2 BW3 Zbo
                go_wp2
                go_meet
                case rel => exact ⟨bo, g1, g2, rfl, hrow, hq1, hq2, hq3⟩
              · go_simp
                refine hK.out _ _ trivial (fun hD2 hS2 => ?_)
                clear hD hS hK K'
                have hD := hD2
                have hS := hS2
                clear hD2 hS2
                (try simp only [Act.put, List.setIfInBounds_toArray, List.set_cons_zero, List.set_cons_succ])
                generalize hWx : World.alloc w6 _ = w7 at hS ⊢
                have hWz : World.alloc w6 zero34 = w7 := hWx
                obtain ⟨bo, hbo⟩ : ∃ x, w6.heap.size = x := ⟨_, rfl⟩
                have Zbo : w7.heap[bo]? = some zero34 := by rw [← hWz, ← hbo]; exact blk_new _ _
                have BW2 : Below w5.heap.size w5 w7 := by rw [← hWz]; exact BW1.alloc BW1.size _
                have zb : w5.heap.size ≤ bo := by rw [← hbo]; exact BW1.size
                (try rw [hbo])
                have ir1 : IntRow w7 g1 (Fo.ssOf (L.take A)) := by
                  obtain ⟨cc, fz, hb, hc⟩ := ir1
                  exact ⟨cc, fz, by rw [← hWz]; exact blk_alloc _ hb, hc⟩
                clear hWx hWz hbo
                refine wpAnyT_one (i := 7) (by kernel_rfl) rfl hD (fun K' hK => ?_)
                go_simp
                refine (HC2.out _ BW2).mono ?_
                rintro e w8 ⟨g2, rfl, ir2, b8, hgg2⟩
                refine hK.out _ _ trivial (fun hD2 hS2 => ?_)
                clear hD hS hK K'
                have hD := hD2
                have hS := hS2
                clear hD2 hS2
                (try simp only [Act.put, List.setIfInBounds_toArray, List.set_cons_zero, List.set_cons_succ])
                have BW3 : Below w5.heap.size w5 w8 := BW2.trans (b8.mono BW2.size)
                have ir1 : IntRow w8 g1 (Fo.ssOf (L.take A)) := by
                  obtain ⟨cc, fz, hb, hc⟩ := ir1
                  exact ⟨cc, fz, by rw [b8.block _ (lt_of_block hb)]; exact hb, hc⟩
                have Zbo : w8.heap[bo]? = some zero34 := by rw [b8.block _ (lt_of_block Zbo)]; exact Zbo
                refine wpAnyT_take (i := 8) (v := .agg (ownCells (L.take A) (L.drop A) g1 g2).toArray) rfl (by kernel_rfl) (by kernel_rfl) (by kernel_rfl) (fun _ _ _ h => h) (fun _ _ h => h) (fun _ _ h => h) hD (Or.inl ⟨by rfl, ?_⟩) hS ?_
                · intro W hW
                  have hbuild := run_build54 (codeCells (L.take A) g1) (codeCells (L.drop A) g2) (codeCells_len _ _) (codeCells_len _ _) W
                  exact exec_build2 164 0 1 (.tmp 48) (.tmp 52) rfl rfl rfl hbuild
                clear hD hS; intro hD hS; (try simp only [Act.put, List.getElem_toArray, List.getElem_cons_zero, List.getElem_cons_succ, List.setIfInBounds_toArray, List.set_cons_zero, List.set_cons_succ])
                have hone : (ownCells (L.take A) (L.drop A) g1 g2).toArray.all (·.oneCell') = true := by simp [ownCells, codeCells, ints, Value.oneCell']
                have hsz34 : (ownCells (L.take A) (L.drop A) g1 g2).length = 34 := by rw [ownCells, List.length_append, codeCells_len, codeCells_len]
                have hszA : (ownCells (L.take A) (L.drop A) g1 g2).toArray.size = 34 := List.size_toArray.trans hsz34
                have hi34 : Hid ((Tryz.prog.info? 164).map (·.size) = some (ownCells (L.take A) (L.drop A) g1 g2).toArray.size) := by unfold Hid; rw [hszA]; kernel_rfl
                have ht34 : Hid (w8.there bo 0 (ownCells (L.take A) (L.drop A) g1 g2).toArray.size) := by unfold Hid; rw [hszA]; exact there34 Zbo
                have hrow : Hid ((w8.setCells bo 0 (ownCells (L.take A) (L.drop A) g1 g2)).heap[bo]? = some (.cells (ownCells (L.take A) (L.drop A) g1 g2).toArray 164 (0, 0))) := setCells_whole Zbo (by rw [hsz34]; rfl)
                have hne1 : g1 ≠ bo := fun e => by obtain ⟨cc, fz, hb, _⟩ := ir1; rw [e, Zbo] at hb; simp [zero34] at hb
                have hne2 : g2 ≠ bo := fun e => by obtain ⟨cc, fz, hb, _⟩ := ir2; rw [e, Zbo] at hb; simp [zero34] at hb
                have hq1 : Hid (IntRow (w8.setCells bo 0 (ownCells (L.take A) (L.drop A) g1 g2)) g1 (Fo.ssOf (L.take A))) := by
                  obtain ⟨cc, fz, hb, hc⟩ := ir1
                  exact ⟨cc, fz, by rw [setCells_ne _ hne1]; exact hb, hc⟩
                have hq2 : Hid (IntRow (w8.setCells bo 0 (ownCells (L.take A) (L.drop A) g1 g2)) g2 (Fo.ssOf (L.drop A))) := by
                  obtain ⟨cc, fz, hb, hc⟩ := ir2
                  exact ⟨cc, fz, by rw [setCells_ne _ hne2]; exact hb, hc⟩
                have hq3 : Hid (Below w5.heap.size w5 (w8.setCells bo 0 (ownCells (L.take A) (L.drop A) g1 g2))) := setCells_below _ _ zb _ _ _ _ BW3
                refine wpAnyT_one (i := 10) (by kernel_rfl) rfl hD (fun K' hK => ?_)
                refine iteTrue rfl ?_
                refine wp_store_mid 164 (.tmp 9) (.tmp 53) rfl bo 0 (ownCells (L.take A) (L.drop A) g1 g2).toArray rfl rfl ht34.out hi34.out hone ?_
                refine hK.out _ _ trivial (fun hD2 hS2 => ?_)
                clear hD hS hK K' hD2 hS2
                refine wpAnyT_done (by kernel_rfl) ?_ _
                generalize hWS : World.setCells _ bo 0 (ownCells (L.take A) (L.drop A) g1 g2).toArray.toList = WS
                have hWS' : w8.setCells bo 0 (ownCells (L.take A) (L.drop A) g1 g2) = WS := hWS
                rw [hWS'] at hrow hq1 hq2 hq3
                clear hWS hWS' ht34 hi34 hone hsz34 hszA hne1 hne2 ir1 ir2 BW0 BW1 BW2 BW3 Zbo
                go_wp2
                go_meet
                case rel => exact ⟨bo, g1, g2, rfl, hrow, hq1, hq2, hq3⟩
            · go_simp
              refine hK.out _ _ trivial (fun hD2 hS2 => ?_)
              clear hD hS hK K'
              have hD := hD2
              have hS := hS2
              clear hD2 hS2
              (try simp only [Act.put, List.setIfInBounds_toArray, List.set_cons_zero, List.set_cons_succ])
              generalize hWx : World.drew (World.alloc w5 _) = w6 at hS ⊢
              have hWz : World.drew (World.alloc w5 zero34) = w6 := hWx
              obtain ⟨bo, hbo⟩ : ∃ x, w5.heap.size = x := ⟨_, rfl⟩
              have Zbo : w6.heap[bo]? = some zero34 := by rw [← hWz, ← hbo]; exact blk_new _ _
              have BW1 : Below w5.heap.size w5 w6 := by
                have b := (Below.refl w5.heap.size w5).alloc (Nat.le_refl _) zero34
                rw [← hWz]; exact ⟨b.os, b.tape, b.output, b.size, b.block⟩
              have zb : w5.heap.size ≤ bo := by omega
              rw [hbo]
              clear hWx hWz hbo
              refine wpAnyT_one (i := 3) (by kernel_rfl) rfl hD (fun K' hK => ?_)
              go_simp
              refine (HC1.out _ BW1).mono ?_
              rintro e w7 ⟨g1, rfl, ir1, b7, hgg1⟩
              refine hK.out _ _ trivial (fun hD2 hS2 => ?_)
              clear hD hS hK K'
              have hD := hD2
              have hS := hS2
              clear hD2 hS2
              (try simp only [Act.put, List.setIfInBounds_toArray, List.set_cons_zero, List.set_cons_succ])
              have BW2 : Below w5.heap.size w5 w7 := BW1.trans (b7.mono BW1.size)
              have Zbo : w7.heap[bo]? = some zero34 := by rw [b7.block _ (lt_of_block Zbo)]; exact Zbo
              refine wpAnyT_one (i := 7) (by kernel_rfl) rfl hD (fun K' hK => ?_)
              go_simp
              refine (HC2.out _ BW2).mono ?_
              rintro e w8 ⟨g2, rfl, ir2, b8, hgg2⟩
              refine hK.out _ _ trivial (fun hD2 hS2 => ?_)
              clear hD hS hK K'
              have hD := hD2
              have hS := hS2
              clear hD2 hS2
              (try simp only [Act.put, List.setIfInBounds_toArray, List.set_cons_zero, List.set_cons_succ])
              have BW3 : Below w5.heap.size w5 w8 := BW2.trans (b8.mono BW2.size)
              have ir1 : IntRow w8 g1 (Fo.ssOf (L.take A)) := by
                obtain ⟨cc, fz, hb, hc⟩ := ir1
                exact ⟨cc, fz, by rw [b8.block _ (lt_of_block hb)]; exact hb, hc⟩
              have Zbo : w8.heap[bo]? = some zero34 := by rw [b8.block _ (lt_of_block Zbo)]; exact Zbo
              refine wpAnyT_take (i := 8) (v := .agg (ownCells (L.take A) (L.drop A) g1 g2).toArray) rfl (by kernel_rfl) (by kernel_rfl) (by kernel_rfl) (fun _ _ _ h => h) (fun _ _ h => h) (fun _ _ h => h) hD (Or.inl ⟨by rfl, ?_⟩) hS ?_
              · intro W hW
                have hbuild := run_build54 (codeCells (L.take A) g1) (codeCells (L.drop A) g2) (codeCells_len _ _) (codeCells_len _ _) W
                exact exec_build2 164 0 1 (.tmp 48) (.tmp 52) rfl rfl rfl hbuild
              clear hD hS; intro hD hS; (try simp only [Act.put, List.getElem_toArray, List.getElem_cons_zero, List.getElem_cons_succ, List.setIfInBounds_toArray, List.set_cons_zero, List.set_cons_succ])
              have hone : (ownCells (L.take A) (L.drop A) g1 g2).toArray.all (·.oneCell') = true := by simp [ownCells, codeCells, ints, Value.oneCell']
              have hsz34 : (ownCells (L.take A) (L.drop A) g1 g2).length = 34 := by rw [ownCells, List.length_append, codeCells_len, codeCells_len]
              have hszA : (ownCells (L.take A) (L.drop A) g1 g2).toArray.size = 34 := List.size_toArray.trans hsz34
              have hi34 : Hid ((Tryz.prog.info? 164).map (·.size) = some (ownCells (L.take A) (L.drop A) g1 g2).toArray.size) := by unfold Hid; rw [hszA]; kernel_rfl
              have ht34 : Hid (w8.there bo 0 (ownCells (L.take A) (L.drop A) g1 g2).toArray.size) := by unfold Hid; rw [hszA]; exact there34 Zbo
              have hrow : Hid ((w8.setCells bo 0 (ownCells (L.take A) (L.drop A) g1 g2)).heap[bo]? = some (.cells (ownCells (L.take A) (L.drop A) g1 g2).toArray 164 (0, 0))) := setCells_whole Zbo (by rw [hsz34]; rfl)
              have hne1 : g1 ≠ bo := fun e => by obtain ⟨cc, fz, hb, _⟩ := ir1; rw [e, Zbo] at hb; simp [zero34] at hb
              have hne2 : g2 ≠ bo := fun e => by obtain ⟨cc, fz, hb, _⟩ := ir2; rw [e, Zbo] at hb; simp [zero34] at hb
              have hq1 : Hid (IntRow (w8.setCells bo 0 (ownCells (L.take A) (L.drop A) g1 g2)) g1 (Fo.ssOf (L.take A))) := by
                obtain ⟨cc, fz, hb, hc⟩ := ir1
                exact ⟨cc, fz, by rw [setCells_ne _ hne1]; exact hb, hc⟩
              have hq2 : Hid (IntRow (w8.setCells bo 0 (ownCells (L.take A) (L.drop A) g1 g2)) g2 (Fo.ssOf (L.drop A))) := by
                obtain ⟨cc, fz, hb, hc⟩ := ir2
                exact ⟨cc, fz, by rw [setCells_ne _ hne2]; exact hb, hc⟩
              have hq3 : Hid (Below w5.heap.size w5 (w8.setCells bo 0 (ownCells (L.take A) (L.drop A) g1 g2))) := setCells_below _ _ zb _ _ _ _ BW3
              refine wpAnyT_one (i := 10) (by kernel_rfl) rfl hD (fun K' hK => ?_)
              refine iteTrue rfl ?_
              refine wp_store_mid 164 (.tmp 9) (.tmp 53) rfl bo 0 (ownCells (L.take A) (L.drop A) g1 g2).toArray rfl rfl ht34.out hi34.out hone ?_
              refine hK.out _ _ trivial (fun hD2 hS2 => ?_)
              clear hD hS hK K' hD2 hS2
              refine wpAnyT_done (by kernel_rfl) ?_ _
              generalize hWS : World.setCells _ bo 0 (ownCells (L.take A) (L.drop A) g1 g2).toArray.toList = WS
              have hWS' : w8.setCells bo 0 (ownCells (L.take A) (L.drop A) g1 g2) = WS := hWS
              rw [hWS'] at hrow hq1 hq2 hq3
              clear hWS hWS' ht34 hi34 hone hsz34 hszA hne1 hne2 ir1 ir2 BW0 BW1 BW2 BW3 Zbo
              go_wp2
              go_meet
              case rel => exact ⟨bo, g1, g2, rfl, hrow, hq1, hq2, hq3⟩
          case rest =>
            obtain ⟨bo, g1, g2, rfl, hrow, hq1, hq2, hq3⟩ := hcut
            have hws5 : w.heap.size ≤ w5.heap.size := (K0.out.trans KZ4.out).size
            have hcd := ownCd hrow.out hq1.out hq2.out S1.out S2.out
            have HF1 := hide (fill_ok bo 0 (cz (L.take A)) (Fo.ssOf (L.take A)) hcd.1 (fun j hj => Nat.le_trans (cz_le _ j hj) (by rw [List.length_take]; omega)))
            rw [full_cz] at HF1
            have HF2 := hide (fill_ok bo 17 (cz (L.drop A)) (Fo.ssOf (L.drop A)) hcd.2 (fun j hj => Nat.le_trans (cz_le _ j hj) (by rw [List.length_drop]; omega)))
            rw [full_cz] at HF2
            have HFW := hide (few_ok bo 17 (cz (L.drop A)) (Fo.ssOf (L.drop A)) hcd.2 (by rw [ss_len S2.out]; have := cz_sum_le _ S2.out; rw [HT2.out] at this; omega) (Nat.le_trans (cz_le _ 1 (by omega)) (by rw [List.length_drop]; omega)))
            have HFI := hide (few_iff (L.drop A) S2.out)
            clear hcd
            go_wp2_with fail
            refine HF1.out.mono ?_
            rintro e w9 ⟨rfl, rfl⟩
            by_cases c1 : Fo.fullOf (L.take A) = 32768
            · rw [decide_eq_true c1]
              go_wp2_with fail
              refine (must_yes _).mono ?_
              rintro e w10 ⟨rfl, rfl⟩
              go_wp2_with fail
              refine HF2.out.mono ?_
              rintro e w11 ⟨rfl, rfl⟩
              by_cases c2 : Fo.fullOf (L.drop A) = 32768
              · rw [decide_eq_true c2]
                have hgood : Fo.ownGood L (Fo.headA r) := by rw [HAA.out]; exact ⟨c1, fun h => cX (by rw [← HX.out]; exact h), Or.inl c2⟩
                go_wp2_with fail
                refine (must_yes _).mono ?_
                rintro e w10 ⟨rfl, rfl⟩
                have hk5 : Kept 3 w5.heap.size [] w5 w10 := ⟨hq3.out.os, hq3.out.tape, hq3.out.output, hq3.out.size, fun k o _ ho _ => by rw [show w10.heap = w10.heap from rfl, hq3.out.block k (lt_of_block ho)]; exact ho⟩
                have Zr : w10.heap[w.heap.size]? = some zero34 := by
                  have z0 : W0.heap[w.heap.size]? = some zero34 := by rw [← HW0.out]; exact blk_new _ _
                  have z1 := KZ4.out.block w.heap.size _ (by simp; omega) z0 (Or.inr (by intro c fz e; simp [zero34] at e))
                  exact hk5.block w.heap.size _ (by simp) z1 (Or.inr (by intro c fz e; simp [zero34] at e))
                have hrg : Hid (w10.rangeAt bo 0 (ownCells (L.take A) (L.drop A) g1 g2)) := range_of_cells (by exact hrow.out)
                have hszL : (ownCells (L.take A) (L.drop A) g1 g2).length = 34 := by rw [ownCells, List.length_append, codeCells_len, codeCells_len]
                have hszA : (ownCells (L.take A) (L.drop A) g1 g2).toArray.size = 34 := List.size_toArray.trans hszL
                have hone : (ownCells (L.take A) (L.drop A) g1 g2).toArray.all (·.oneCell') = true := by simp [ownCells, codeCells, ints, Value.oneCell']
                have hi34l : Hid ((Tryz.prog.info? 164).map (·.size) = some (ownCells (L.take A) (L.drop A) g1 g2).length) := by unfold Hid; rw [hszL]; kernel_rfl
                have hi34 : Hid ((Tryz.prog.info? 164).map (·.size) = some (ownCells (L.take A) (L.drop A) g1 g2).toArray.size) := by unfold Hid; rw [hszA]; kernel_rfl
                have ht34 : Hid (w10.there w.heap.size 0 (ownCells (L.take A) (L.drop A) g1 g2).toArray.size) := by unfold Hid; rw [hszA]; exact there34 Zr
                have hfin : Hid ((w10.setCells w.heap.size 0 (ownCells (L.take A) (L.drop A) g1 g2)).heap[w.heap.size]? = some (.cells (ownCells (L.take A) (L.drop A) g1 g2).toArray 164 (0, 0))) := setCells_whole Zr (by rw [hszL]; rfl)
                have hnz1 : g1 ≠ w.heap.size := fun e => by obtain ⟨cc, fz, hb, _⟩ := hq1.out; have hb' : w10.heap[g1]? = _ := hb; rw [e, Zr] at hb'; simp [zero34] at hb'
                have hnz2 : g2 ≠ w.heap.size := fun e => by obtain ⟨cc, fz, hb, _⟩ := hq2.out; have hb' : w10.heap[g2]? = _ := hb; rw [e, Zr] at hb'; simp [zero34] at hb'
                have hp1 : Hid (IntRow (w10.setCells w.heap.size 0 (ownCells (L.take A) (L.drop A) g1 g2)) g1 (Fo.ssOf (L.take A))) := by
                  obtain ⟨cc, fz, hb, hc⟩ := hq1.out
                  exact ⟨cc, fz, by rw [setCells_ne _ hnz1]; exact hb, hc⟩
                have hp2 : Hid (IntRow (w10.setCells w.heap.size 0 (ownCells (L.take A) (L.drop A) g1 g2)) g2 (Fo.ssOf (L.drop A))) := by
                  obtain ⟨cc, fz, hb, hc⟩ := hq2.out
                  exact ⟨cc, fz, by rw [setCells_ne _ hnz2]; exact hb, hc⟩
                have hpF : Hid (Fl B br bf bd off cap d most fixed (w10.setCells w.heap.size 0 (ownCells (L.take A) (L.drop A) g1 g2)) r' window ov out) := (F4.out.keptI hk5 (by omega)).keptE (e := 164) (by decide) (kept_setCellsE Zr (Nat.le_refl _) _) hbdw
                have hpK : Hid (Kept 5 B [br, bf] w (w10.setCells w.heap.size 0 (ownCells (L.take A) (L.drop A) g1 g2))) := Kept.setCellsNew ((K0.out.trans KZ4.out).trans (Kept.ofBelow' ⟨hq3.out.os, hq3.out.tape, hq3.out.output, hq3.out.size, hq3.out.block⟩)) (Nat.le_refl _) _
                clear hk5 Zr hszL hszA hnz1 hnz2
                generalize hCC : ownCells (L.take A) (L.drop A) g1 g2 = CC at *
                have HCC := hide hCC
                clear hCC
                go_wp2_with (first | (refine wpList_load_mid rfl 164 (.tmp 9) rfl bo 0 rfl _ _ hrg.out Tryz.underlying164 rfl hi34l.out ?_) | (refine wpList_store_mid rfl 164 (.tmp 2) (.tmp 64) rfl w.heap.size 0 CC.toArray rfl rfl ht34.out hi34.out hone ?_))
                refine bodyPost_ret (v := .agg CC.toArray) ?_ rfl (Or.inr ⟨r', L, g1, g2, HRES.out, hgood, ?_, ?_, ?_, hpF.out, hpK.out⟩)
                · exact results_cell_row Tryz.results224 _ _ w.heap.size 164 _ _ _ rfl hfin.out Tryz.underlying164 rfl hi34.out
                · rw [HAA.out, HCC.out]
                · rw [HAA.out]; exact hp1.out
                · rw [HAA.out]; exact hp2.out
              · rw [decide_eq_false c2]
                go_wp2_with fail
                refine HFW.out.mono ?_
                rintro e w12 ⟨rfl, q, hwd⟩
                have hrow : Hid (w12.heap[bo]? = some (.cells (ownCells (L.take A) (L.drop A) g1 g2).toArray 164 (0, 0))) := by rw [hwd]; exact hrow
                have hq1 : Hid (IntRow w12 g1 (Fo.ssOf (L.take A))) := by rw [hwd]; exact hq1
                have hq2 : Hid (IntRow w12 g2 (Fo.ssOf (L.drop A))) := by rw [hwd]; exact hq2
                have hq3 : Hid (Below w5.heap.size w5 w12) := by rw [hwd]; exact ⟨hq3.out.os, hq3.out.tape, hq3.out.output, hq3.out.size, hq3.out.block⟩
                clear hwd
                by_cases c3 : (Fo.ssOf (L.drop A)).length = nth (cz (L.drop A)) 1 ∧ (Fo.ssOf (L.drop A)).length ≤ 1
                · rw [decide_eq_true c3]
                  have hgood : Fo.ownGood L (Fo.headA r) := by rw [HAA.out]; exact ⟨c1, fun h => cX (by rw [← HX.out]; exact h), Or.inr ((HFI.out c2).1 c3)⟩
                  go_wp2_with fail
                  refine (must_yes _).mono ?_
                  rintro e w10 ⟨rfl, rfl⟩
                  have hk5 : Kept 3 w5.heap.size [] w5 w10 := ⟨hq3.out.os, hq3.out.tape, hq3.out.output, hq3.out.size, fun k o _ ho _ => by rw [show w10.heap = w10.heap from rfl, hq3.out.block k (lt_of_block ho)]; exact ho⟩
                  have Zr : w10.heap[w.heap.size]? = some zero34 := by
                    have z0 : W0.heap[w.heap.size]? = some zero34 := by rw [← HW0.out]; exact blk_new _ _
                    have z1 := KZ4.out.block w.heap.size _ (by simp; omega) z0 (Or.inr (by intro c fz e; simp [zero34] at e))
                    exact hk5.block w.heap.size _ (by simp) z1 (Or.inr (by intro c fz e; simp [zero34] at e))
                  have hrg : Hid (w10.rangeAt bo 0 (ownCells (L.take A) (L.drop A) g1 g2)) := range_of_cells (by exact hrow.out)
                  have hszL : (ownCells (L.take A) (L.drop A) g1 g2).length = 34 := by rw [ownCells, List.length_append, codeCells_len, codeCells_len]
                  have hszA : (ownCells (L.take A) (L.drop A) g1 g2).toArray.size = 34 := List.size_toArray.trans hszL
                  have hone : (ownCells (L.take A) (L.drop A) g1 g2).toArray.all (·.oneCell') = true := by simp [ownCells, codeCells, ints, Value.oneCell']
                  have hi34l : Hid ((Tryz.prog.info? 164).map (·.size) = some (ownCells (L.take A) (L.drop A) g1 g2).length) := by unfold Hid; rw [hszL]; kernel_rfl
                  have hi34 : Hid ((Tryz.prog.info? 164).map (·.size) = some (ownCells (L.take A) (L.drop A) g1 g2).toArray.size) := by unfold Hid; rw [hszA]; kernel_rfl
                  have ht34 : Hid (w10.there w.heap.size 0 (ownCells (L.take A) (L.drop A) g1 g2).toArray.size) := by unfold Hid; rw [hszA]; exact there34 Zr
                  have hfin : Hid ((w10.setCells w.heap.size 0 (ownCells (L.take A) (L.drop A) g1 g2)).heap[w.heap.size]? = some (.cells (ownCells (L.take A) (L.drop A) g1 g2).toArray 164 (0, 0))) := setCells_whole Zr (by rw [hszL]; rfl)
                  have hnz1 : g1 ≠ w.heap.size := fun e => by obtain ⟨cc, fz, hb, _⟩ := hq1.out; have hb' : w10.heap[g1]? = _ := hb; rw [e, Zr] at hb'; simp [zero34] at hb'
                  have hnz2 : g2 ≠ w.heap.size := fun e => by obtain ⟨cc, fz, hb, _⟩ := hq2.out; have hb' : w10.heap[g2]? = _ := hb; rw [e, Zr] at hb'; simp [zero34] at hb'
                  have hp1 : Hid (IntRow (w10.setCells w.heap.size 0 (ownCells (L.take A) (L.drop A) g1 g2)) g1 (Fo.ssOf (L.take A))) := by
                    obtain ⟨cc, fz, hb, hc⟩ := hq1.out
                    exact ⟨cc, fz, by rw [setCells_ne _ hnz1]; exact hb, hc⟩
                  have hp2 : Hid (IntRow (w10.setCells w.heap.size 0 (ownCells (L.take A) (L.drop A) g1 g2)) g2 (Fo.ssOf (L.drop A))) := by
                    obtain ⟨cc, fz, hb, hc⟩ := hq2.out
                    exact ⟨cc, fz, by rw [setCells_ne _ hnz2]; exact hb, hc⟩
                  have hpF : Hid (Fl B br bf bd off cap d most fixed (w10.setCells w.heap.size 0 (ownCells (L.take A) (L.drop A) g1 g2)) r' window ov out) := (F4.out.keptI hk5 (by omega)).keptE (e := 164) (by decide) (kept_setCellsE Zr (Nat.le_refl _) _) hbdw
                  have hpK : Hid (Kept 5 B [br, bf] w (w10.setCells w.heap.size 0 (ownCells (L.take A) (L.drop A) g1 g2))) := Kept.setCellsNew ((K0.out.trans KZ4.out).trans (Kept.ofBelow' ⟨hq3.out.os, hq3.out.tape, hq3.out.output, hq3.out.size, hq3.out.block⟩)) (Nat.le_refl _) _
                  clear hk5 Zr hszL hszA hnz1 hnz2
                  generalize hCC : ownCells (L.take A) (L.drop A) g1 g2 = CC at *
                  have HCC := hide hCC
                  clear hCC
                  go_wp2_with (first | (refine wpList_load_mid rfl 164 (.tmp 9) rfl bo 0 rfl _ _ hrg.out Tryz.underlying164 rfl hi34l.out ?_) | (refine wpList_store_mid rfl 164 (.tmp 2) (.tmp 64) rfl w.heap.size 0 CC.toArray rfl rfl ht34.out hi34.out hone ?_))
                  refine bodyPost_ret (v := .agg CC.toArray) ?_ rfl (Or.inr ⟨r', L, g1, g2, HRES.out, hgood, ?_, ?_, ?_, hpF.out, hpK.out⟩)
                  · exact results_cell_row Tryz.results224 _ _ w.heap.size 164 _ _ _ rfl hfin.out Tryz.underlying164 rfl hi34.out
                  · rw [HAA.out, HCC.out]
                  · rw [HAA.out]; exact hp1.out
                  · rw [HAA.out]; exact hp2.out
                · rw [decide_eq_false c3]
                  go_wp2_with fail
                  refine (must_nob _ rfl _).mono ?_
                  rintro e w13 ⟨rfl, rfl⟩
                  exact ⟨rfl, Or.inl ⟨Or.inr ⟨r', L, HRES.out, fun h => by rw [HAA.out] at h; exact h.2.2.elim c2 (fun h => c3 ((HFI.out c2).2 h))⟩, rfl, (K0.out.trans KZ4.out).trans (Kept.ofBelow' ⟨hq3.out.os, hq3.out.tape, hq3.out.output, hq3.out.size, hq3.out.block⟩)⟩⟩
            · rw [decide_eq_false c1]
              go_wp2_with fail
              refine (must_nob _ rfl _).mono ?_
              rintro e w10 ⟨rfl, rfl⟩
              exact ⟨rfl, Or.inl ⟨Or.inr ⟨r', L, HRES.out, fun h => by rw [HAA.out] at h; exact c1 h.1⟩, rfl, (K0.out.trans KZ4.out).trans (Kept.ofBelow' ⟨hq3.out.os, hq3.out.tape, hq3.out.output, hq3.out.size, hq3.out.block⟩)⟩⟩
    · have hE : Fo.ownHead r = none := by
        rw [Fo.ownHead_lens, if_neg (by omega), HHA.out, HHB.out, if_pos (by omega)]
      by_cases ca : va ≤ 29
      · go_wp2_with fail
        refine (within_int_yes _ _ _ _ (by omega) (by omega)).mono ?_
        rintro e w' ⟨rfl, rfl⟩
        go_wp2_with fail
        refine (within_int_no _ _ _ _ (Or.inr (by omega))).mono ?_
        rintro e w' ⟨rfl, rfl⟩
        go_wp2_with fail
        refine (must_nob _ rfl _).mono ?_
        rintro e w' ⟨rfl, rfl⟩
        exact ⟨rfl, Or.inl ⟨Or.inl hE, rfl, K3.out⟩⟩
      · go_wp2_with fail
        refine (within_int_no _ _ _ _ (Or.inr (by omega))).mono ?_
        rintro e w' ⟨rfl, rfl⟩
        go_wp2_with fail
        refine (must_nob _ rfl _).mono ?_
        rintro e w' ⟨rfl, rfl⟩
        exact ⟨rfl, Or.inl ⟨Or.inl hE, rfl, K3.out⟩⟩)
theorem own_any {r : List Bool} (h : Fl B br bf bd off cap d most fixed w r window ov out) (hord : OrdW w) (hG : 1 < B) :
    Calls Tryz.prog 224 #[.pointer (some ⟨bf, 0, none⟩)] w (OwRes B br bf bd off cap d most fixed window ov out w r) := by
  by_cases c14 : 14 ≤ r.length
  · exact own_long h hord hG c14
  have hE : Fo.ownHead r = none := by rw [Fo.ownHead_lens, if_pos (by omega)]
  by_cases c5 : r.length < 5
  · exact (own_a h c5).mono fun e w' he => Or.inl ⟨Or.inl hE, he⟩
  by_cases c10 : r.length < 10
  · exact (own_b h (by omega) c10).mono fun e w' he => Or.inl ⟨Or.inl hE, he⟩
  · exact (own_c h (by omega) (by omega)).mono fun e w' he => Or.inl ⟨Or.inl hE, he⟩
end Go.Proofs.YtgkljcmjnphpeaaGreatDoor
