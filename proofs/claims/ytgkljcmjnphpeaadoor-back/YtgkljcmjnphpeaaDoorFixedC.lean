/- fixedCodes. -/
import Derived.Test.YtgkljcmjnphpeaaDoorCodesOf
set_option linter.unusedVariables false
set_option linter.unusedSimpArgs false
namespace Go.Proofs.YtgkljcmjnphpeaaDoor
open Go.RowKit
variable {w : World}

def zero34 : Obj := .cells ((ints (List.replicate 16 0) ++ [Value.slice none 0 0]) ++ (ints (List.replicate 16 0) ++ [Value.slice none 0 0])).toArray 54 (0, 0)

def partly (l : List Nat) (k : Nat) : List Nat := (List.range l.length).map fun i => if i < k then nth l i else 0
theorem partly_length (l : List Nat) (k : Nat) : (partly l k).length = l.length := by simp [partly]
theorem nth_partly (l : List Nat) (k i : Nat) (h : i < l.length) : nth (partly l k) i = if i < k then nth l i else 0 := by
  simp [partly, nth, h]
theorem partly_zero (l : List Nat) : partly l 0 = List.replicate l.length 0 := by
  refine list_ext _ _ (by simp [partly]) ?_
  intro i hi
  rw [partly_length] at hi
  rw [nth_partly _ _ _ hi, if_neg (by omega), nth_rep _ _ _ hi]
theorem partly_all (l : List Nat) : partly l l.length = l := by
  refine list_ext _ _ (by simp [partly]) ?_
  intro i hi
  rw [partly_length] at hi
  rw [nth_partly _ _ _ hi, if_pos hi]
theorem partly_step (l : List Nat) (k : Nat) (h : k < l.length) : partly l (k + 1) = (partly l k).set k (nth l k) := by
  refine list_ext _ _ (by simp [partly]) ?_
  intro i hi
  rw [partly_length] at hi
  rw [nth_partly _ _ _ hi]
  by_cases c : k = i
  · subst c; rw [nth_set_self _ _ _ (by rw [partly_length]; exact h), if_pos (by omega)]
  · rw [nth_set_ne _ _ _ _ c, nth_partly _ _ _ hi]
    by_cases c2 : i < k
    · rw [if_pos c2, if_pos (by omega)]
    · rw [if_neg c2, if_neg (by omega)]

theorem lens_len : Fo.lensFixed.length = 288 := by decide +kernel
theorem dist_len : Fo.distFixed.length = 32 := by decide +kernel
theorem lens_nth : ∀ k : Fin 288, nth Fo.lensFixed k.val = if k.val ≤ 143 then 8 else if k.val ≤ 255 then 9 else if k.val ≤ 279 then 7 else 8 := by decide +kernel
theorem lens_lt : ∀ k : Fin 288, nth Fo.lensFixed k.val < 16 := by decide +kernel
theorem dist_nth : ∀ k : Fin 32, nth Fo.distFixed k.val = 5 := by decide +kernel

/-- While lengths are written into a row g: the result's block, the row. -/
structure Lw (w wr : World) (g : Nat) (l : List Nat) : Prop where
  below : Below w.heap.size w wr
  res : wr.heap[w.heap.size]? = some zero34
  row : wr.heap[g]? = some (.cells (ints l).toArray 3 (0, 0))
theorem Lw.cell {wr : World} {g : Nat} {l : List Nat} (h : Lw w wr g l) (i : Nat) (hi : i < l.length) : wr.cell? ⟨g, i, none⟩ = some (.int .i64 (nth l i : Nat)) := by
  rw [cell_blk h.row, List.getElem?_toArray]; exact ints_get _ _ hi
theorem Lw.set {wr : World} {g : Nat} {l : List Nat} (h : Lw w wr g l) (hg : w.heap.size < g) (i x : Nat) : Lw w (wr.setCell ⟨g, i, none⟩ (.int .i64 x)) g (l.set i x) := by
  refine ⟨h.below.setCell (by show w.heap.size ≤ g; omega) _, ?_, ?_⟩
  · rw [blk_setCell_ne _ (by omega)]; exact h.res
  · rw [blk_setCell _ h.row]; simp [ints, List.map_set]

theorem list17 (A : List Value) (h : A.length = 17) : ∃ a0 a1 a2 a3 a4 a5 a6 a7 a8 a9 a10 a11 a12 a13 a14 a15 a16, A = [a0, a1, a2, a3, a4, a5, a6, a7, a8, a9, a10, a11, a12, a13, a14, a15, a16] :=
  match A, h with
  | [a0, a1, a2, a3, a4, a5, a6, a7, a8, a9, a10, a11, a12, a13, a14, a15, a16], _ => ⟨a0, a1, a2, a3, a4, a5, a6, a7, a8, a9, a10, a11, a12, a13, a14, a15, a16, rfl⟩
theorem build54_lit (a0 a1 a2 a3 a4 a5 a6 a7 a8 a9 a10 a11 a12 a13 a14 a15 a16 b0 b1 b2 b3 b4 b5 b6 b7 b8 b9 b10 b11 b12 b13 b14 b15 b16 : Value) (W : World) : (Instr.build 54 #[(0, .agg #[a0, a1, a2, a3, a4, a5, a6, a7, a8, a9, a10, a11, a12, a13, a14, a15, a16]), (1, .agg #[b0, b1, b2, b3, b4, b5, b6, b7, b8, b9, b10, b11, b12, b13, b14, b15, b16])]).run Tryd.prog W = .ok (.agg #[a0, a1, a2, a3, a4, a5, a6, a7, a8, a9, a10, a11, a12, a13, a14, a15, a16, b0, b1, b2, b3, b4, b5, b6, b7, b8, b9, b10, b11, b12, b13, b14, b15, b16]) W := by kernel_rfl
theorem run_build54 (X Y : List Value) (hx : X.length = 17) (hy : Y.length = 17) (W : World) : (Instr.build 54 #[(0, .agg X.toArray), (1, .agg Y.toArray)]).run Tryd.prog W = .ok (.agg (X ++ Y).toArray) W := by
  obtain ⟨a0, a1, a2, a3, a4, a5, a6, a7, a8, a9, a10, a11, a12, a13, a14, a15, a16, rfl⟩ := list17 X hx
  obtain ⟨b0, b1, b2, b3, b4, b5, b6, b7, b8, b9, b10, b11, b12, b13, b14, b15, b16, rfl⟩ := list17 Y hy
  exact build54_lit a0 a1 a2 a3 a4 a5 a6 a7 a8 a9 a10 a11 a12 a13 a14 a15 a16 b0 b1 b2 b3 b4 b5 b6 b7 b8 b9 b10 b11 b12 b13 b14 b15 b16 W

theorem wpList_build2 {P : Program} {w : World} {ops : Array Oper} {rest : List Oper} {o : Oper} {a : Act} {Q : Exit → Act → World → Prop} (hgd : o.guard = none) (t i j : Nat) (x y : Operand) (ho : o.op = .build t #[(i, x), (j, y)])
    (vx vy v : Value) (hx : a.eval x = vx) (hy : a.eval y = vy) (hrun : ∀ W, (Instr.build t #[(i, vx), (j, vy)]).run P W = .ok v W) (h : wpList P ops Q rest (a.put o.dst v) w) : wpList P ops Q (o :: rest) a w := by
  refine wpList_plain hgd fun K hK => ?_
  unfold Oper.wp
  simp [execOp, ho, hx, hy, hrun, Result.andThen]
  exact hK _ _ h

theorem there34 {wr : World} {b : Nat} (h : wr.heap[b]? = some zero34) : wr.there b 0 34 := by
  intro j hj
  have h' : wr.heap[b]? = some (.cells ((ints (List.replicate 16 0) ++ [Value.slice none 0 0]) ++ (ints (List.replicate 16 0) ++ [Value.slice none 0 0])).toArray 54 (0, 0)) := h
  refine ⟨?_, free_blk h'⟩
  rw [cell_blk h', List.getElem?_toArray, List.getElem?_eq_getElem (by simp [ints]; omega)]; rfl

set_option maxRecDepth 100000 in
set_option maxHeartbeats 2000000 in
theorem fixedCodes_gen (L1 L2 : List Nat) (len1 : L1.length = 288) (len2 : L2.length = 32) (n1 : ∀ k, k < 288 → nth L1 k = if k ≤ 143 then 8 else if k ≤ 255 then 9 else if k ≤ 279 then 7 else 8) (n2 : ∀ k, k < 32 → nth L2 k = 5) : Calls Tryd.prog 35 #[] w fun e w' => ∃ g1 g2, e = .returned (.agg ((ints (cz L1) ++ [Value.slice (some ⟨g1, 0, none⟩) (cz L1).sum (cz L1).sum]) ++ (ints (cz L2) ++ [Value.slice (some ⟨g2, 0, none⟩) (cz L2).sum (cz L2).sum])).toArray) ∧ IntRow w' g1 (fillTo L1 288).2 ∧ IntRow w' g2 (fillTo L2 32).2 ∧ Below w.heap.size w w' ∧ w.heap.size ≤ g1 ∧ w.heap.size ≤ g2 := by
  obtain ⟨i0, hi, hz0, hz1, hz2⟩ := info_parts Tryd.infoInt
  have N1 := hide n1
  have N2 := hide n2
  clear n1 n2
  go_enter Tryd.func35, Tryd.ntmps35
  go_wp2_with (at_make; refine wpList_make_full _ rfl _ _ 23 rfl (w.heap.size + 1) 3 i0 (.int .i64 0) 1 Tryd.underlying23 hi hz0 hz1 .i64 .i64 _ _ 288 rfl rfl (by omega) (by omega) (by rw [hz2]; omega) (by unfold maxLen; omega) (by simp) ?_; intro w1 hown1 hg1; have hrow := row_made hown1)
  have hl1 : Lw w w1 (w.heap.size + 1) (partly L1 0) := by
    rw [partly_zero, len1]
    refine ⟨((Below.refl _ _).alloc (Nat.le_refl _) _).grown hg1 (by simp) (fun k h => by cases h), ?_, by simpa using hrow⟩
    rw [hg1.block _ (by simp) (by simp)]; exact blk_new w zero34
  clear hown1 hg1 hrow
  go_loopw [8] (fun i wr => ∃ k : Nat, k ≤ 288 ∧ i = .int .i64 k ∧ Lw w wr (w.heap.size + 1) (partly L1 k)) (fun i _ => 288 - (intOf i).toNat)
  case atStart => exact ⟨0, by omega, rfl, hl1⟩
  clear hl1
  case round =>
    obtain ⟨k, hk, rfl, lw⟩ := hrel
    by_cases hlt : k < 288
    · have c1 := lw.cell k (by rw [partly_length, len1]; exact hlt)
      have f1 : wr.frozen? ⟨w.heap.size + 1, k, none⟩ = false := free_blk lw.row
      have hn := N1.out k hlt
      have HN := hide hn
      have HSTEP := hide (partly_step L1 k (by rw [len1]; exact hlt))
      have HLW := hide lw
      clear hn lw
      have fin : ∀ x : Nat, nth L1 k = x → Lw w (wr.setCell ⟨w.heap.size + 1, k, none⟩ (.int .i64 x)) (w.heap.size + 1) (partly L1 (k + 1)) := by
        intro x hx
        rw [HSTEP.out, hx]; exact HLW.out.set (by omega) k x
      have FIN := hide fin
      clear fin
      generalize hQ : nth (partly L1 k) k = Qq at c1
      clear hQ
      have hlt' : (k : Int) < 288 := by omega
      rcases (show k ≤ 143 ∨ (143 < k ∧ k ≤ 255) ∨ (255 < k ∧ k ≤ 279) ∨ 279 < k by omega) with h1 | h1 | h1 | h1
      · have h2 : (k : Int) ≤ 143 := by omega
        go_wp2
        go_roundw
        case rel => exact ⟨k + 1, by omega, by go_num, FIN.out 8 (by rw [HN.out, if_pos h1])⟩
        case measure => simp [intOf]; omega
      · have h2 : ¬ (k : Int) ≤ 143 := by omega
        have h3 : (k : Int) ≤ 255 := by omega
        go_wp2
        go_roundw
        case rel => exact ⟨k + 1, by omega, by go_num, FIN.out 9 (by rw [HN.out, if_neg (by omega), if_pos h1.2])⟩
        case measure => simp [intOf]; omega
      · have h2 : ¬ (k : Int) ≤ 143 := by omega
        have h3 : ¬ (k : Int) ≤ 255 := by omega
        have h4 : (k : Int) ≤ 279 := by omega
        go_wp2
        go_roundw
        case rel => exact ⟨k + 1, by omega, by go_num, FIN.out 7 (by rw [HN.out, if_neg (by omega), if_neg (by omega), if_pos h1.2])⟩
        case measure => simp [intOf]; omega
      · have h2 : ¬ (k : Int) ≤ 143 := by omega
        have h3 : ¬ (k : Int) ≤ 255 := by omega
        have h4 : ¬ (k : Int) ≤ 279 := by omega
        go_wp2
        go_roundw
        case rel => exact ⟨k + 1, by omega, by go_num, FIN.out 8 (by rw [HN.out, if_neg (by omega), if_neg (by omega), if_neg (by omega)])⟩
        case measure => simp [intOf]; omega
    · obtain rfl : k = 288 := by omega
      have hall : partly L1 288 = L1 := by have := partly_all L1; rw [len1] at this; exact this
      rw [hall] at lw
      clear hall hk hlt
      obtain ⟨wo, hwo⟩ : ∃ wo : World, wo = wr := ⟨_, rfl⟩
      subst hwo
      have hsz := lt_of_block lw.row
      go_wp2_with (at_make; refine wpList_make_full _ rfl _ _ 23 rfl (w.heap.size + 1) 3 i0 (.int .i64 0) 1 Tryd.underlying23 hi hz0 hz1 .i64 .i64 _ _ 32 rfl rfl (by omega) (by omega) (by rw [hz2]; omega) (by unfold maxLen; omega) (by omega) ?_; intro w1 hown1 hg1; have hrow := row_made hown1)
      have hl2 : Lw w w1 wo.heap.size (partly L2 0) ∧ w1.heap[w.heap.size + 1]? = some (.cells (ints L1).toArray 3 (0, 0)) := by
        rw [partly_zero, len2]
        refine ⟨⟨lw.below.grown hg1 (by omega) (fun k h => by cases h), ?_, hrow⟩, ?_⟩
        · rw [hg1.block _ (by omega) (by simp)]; exact lw.res
        · rw [hg1.block _ (by omega) (by simp)]; exact lw.row
      clear hown1 hg1 hrow lw
      go_loopw [36] (fun i wr => ∃ k : Nat, k ≤ 32 ∧ i = .int .i64 k ∧ Hid (Lw w wr wo.heap.size (partly L2 k) ∧ wr.heap[w.heap.size + 1]? = some (.cells (ints L1).toArray 3 (0, 0)))) (fun i _ => 32 - (intOf i).toNat)
      case atStart => exact ⟨0, by omega, rfl, hl2⟩
      clear hl2
      case round =>
        obtain ⟨k, hk, rfl, HH⟩ := hrel
        obtain ⟨lw, hrow⟩ := HH.out
        clear HH
        by_cases hlt : k < 32
        · have c1 := lw.cell k (by rw [partly_length, len2]; exact hlt)
          have f1 : wr.frozen? ⟨wo.heap.size, k, none⟩ = false := free_blk lw.row
          have hstep := partly_step L2 k (by rw [len2]; exact hlt)
          have hn := N2.out k hlt
          rw [hn] at hstep
          have FIN : Hid (Lw w (wr.setCell ⟨wo.heap.size, k, none⟩ (.int .i64 (5 : Nat))) wo.heap.size (partly L2 (k + 1)) ∧ (wr.setCell ⟨wo.heap.size, k, none⟩ (.int .i64 (5 : Nat))).heap[w.heap.size + 1]? = some (.cells (ints L1).toArray 3 (0, 0))) := by
            refine ⟨by rw [hstep]; exact lw.set (by omega) k 5, ?_⟩
            rw [blk_setCell_ne _ (by omega)]; exact hrow
          clear hstep hn lw hrow
          generalize hQ : nth (partly L2 k) k = Qq at c1
          clear hQ
          have hlt' : (k : Int) < 32 := by omega
          go_wp2
          go_roundw
          case rel => exact ⟨k + 1, by omega, by go_num, FIN⟩
          case measure => simp [intOf]; omega
        · obtain rfl : k = 32 := by omega
          have hall : partly L2 32 = L2 := by have := partly_all L2; rw [len2] at this; exact this
          rw [hall] at lw
          clear hall hk hlt
          have hs1 := lt_of_block hrow
          have hs2 := lt_of_block lw.row
          have hcall1 := codesOf_ok (w := wr) (w.heap.size + 1) 0 288 L1 (fun i hi => by rw [len1] at hi; rw [N1.out i hi]; split <;> (try split) <;> (try split) <;> omega) (by rw [len1]; omega) hs1 (fun i hi => by rw [Nat.zero_add, cell_blk hrow, List.getElem?_toArray]; exact ints_get _ _ hi)
          rw [len1] at hcall1
          have HC1 := hide hcall1
          have HLW := hide (And.intro lw hrow)
          clear hcall1 lw hrow
          go_wp2_with fail
          refine HC1.out.mono ?_
          rintro e w2 ⟨g1, rfl, ir1, b1, hg1⟩
          have hcall2 := codesOf_ok (w := w2) wo.heap.size 0 32 L2 (fun i hi => by rw [len2] at hi; rw [N2.out i hi]; omega) (by rw [len2]; omega) (by have := b1.size; omega) (fun i hi => by
            rw [Nat.zero_add, b1.cell (p := ⟨wo.heap.size, i, none⟩) hs2, cell_blk HLW.out.1.row, List.getElem?_toArray]; exact ints_get _ _ hi)
          rw [len2] at hcall2
          have HC2 := hide hcall2
          clear hcall2
          go_wp2_with fail
          refine HC2.out.mono ?_
          rintro e w3 ⟨g2, rfl, ir2, b2, hg2⟩
          clear HC1 HC2
          have hX : (ints (cz L1) ++ [Value.slice (some ⟨g1, 0, none⟩) (cz L1).sum (cz L1).sum]).length = 17 := by simp [ints, cz_length]
          have hY : (ints (cz L2) ++ [Value.slice (some ⟨g2, 0, none⟩) (cz L2).sum (cz L2).sum]).length = 17 := by simp [ints, cz_length]
          have hbuild := run_build54 _ _ hX hY
          have hone : ((ints (cz L1) ++ [Value.slice (some ⟨g1, 0, none⟩) (cz L1).sum (cz L1).sum]) ++ (ints (cz L2) ++ [Value.slice (some ⟨g2, 0, none⟩) (cz L2).sum (cz L2).sum])).toArray.all (·.oneCell') = true := by simp [ints, Value.oneCell']
          have hres : w3.heap[w.heap.size]? = some zero34 := by
            have hsB := b1.size
            rw [b2.block _ (by omega), b1.block _ (by omega)]; exact HLW.out.1.res
          have hbel : Below w.heap.size w w3 := (HLW.out.1.below.trans (b1.mono (by omega))).trans (b2.mono (by have := b1.size; omega))
          have hr1 : IntRow w3 g1 (fillTo L1 288).2 := by
            obtain ⟨c, fz, hb, hc⟩ := ir1
            exact ⟨c, fz, by rw [b2.block _ (lt_of_block hb)]; exact hb, hc⟩
          have hsg2 : w.heap.size ≤ g2 := by have := b1.size; omega
          have hsg1 : w.heap.size < g1 := by omega
          have hsg2' : w.heap.size < g2 := by have := b1.size; omega
          clear ir1 b1 b2 hg1 hg2 HLW
          generalize hXX : ints (cz L1) ++ [Value.slice (some ⟨g1, 0, none⟩) (cz L1).sum (cz L1).sum] = X at *
          generalize hYY : ints (cz L2) ++ [Value.slice (some ⟨g2, 0, none⟩) (cz L2).sum (cz L2).sum] = Y at *
          have HX := hide hXX
          have HY := hide hYY
          clear hXX hYY
          have hsz34 : (X ++ Y).length = 34 := by rw [List.length_append, hX, hY]
          have hszA : (X ++ Y).toArray.size = 34 := List.size_toArray.trans hsz34
          have hi34 : Hid ((Tryd.prog.info? 54).map (·.size) = some (X ++ Y).toArray.size) := by unfold Hid; rw [hszA]; kernel_rfl
          have ht34 : Hid (w3.there w.heap.size 0 (X ++ Y).toArray.size) := by unfold Hid; rw [hszA]; exact there34 hres
          have hfin : Hid ((w3.setCells w.heap.size 0 (X ++ Y)).heap[w.heap.size]? = some (.cells (X ++ Y).toArray 54 (0, 0))) := setCells_whole hres (by rw [hsz34]; rfl)
          have hq1 : Hid (IntRow (w3.setCells w.heap.size 0 (X ++ Y)) g1 (fillTo L1 288).2) := by
            obtain ⟨c, fz, hb, hc⟩ := hr1
            exact ⟨c, fz, by rw [setCells_ne _ (by omega)]; exact hb, hc⟩
          have hq2 : Hid (IntRow (w3.setCells w.heap.size 0 (X ++ Y)) g2 (fillTo L2 32).2) := by
            obtain ⟨c, fz, hb, hc⟩ := ir2
            exact ⟨c, fz, by rw [setCells_ne _ (by omega)]; exact hb, hc⟩
          have hq3 : Hid (Below w.heap.size w (w3.setCells w.heap.size 0 (X ++ Y))) := setCells_below _ _ (Nat.le_refl _) _ _ _ _ hbel
          clear hres hbel hr1 ir2 hX hY hsz34 hszA
          have HB := hide hbuild
          clear hbuild
          have tokb : True := trivial
          go_wp2_with (first | (have _t := tokb; refine wpList_build2 (by rfl) 54 0 1 (.tmp 44) (.tmp 46) (by rfl) (.agg X.toArray) (.agg Y.toArray) (.agg (X ++ Y).toArray) (by rfl) (by rfl) HB.out ?_; clear tokb) | (refine wpList_store_mid (by rfl) 54 (.tmp 0) (.tmp 47) (by rfl) w.heap.size 0 (X ++ Y).toArray (by rfl) (by rfl) ht34.out hi34.out hone ?_))
          refine bodyPost_ret (v := .agg (X ++ Y).toArray) ?_ rfl ⟨g1, g2, ?_, hq1.out, hq2.out, hq3.out, by omega, by omega⟩
          · exact results_cell_row Tryd.results35 _ _ w.heap.size 54 _ _ _ rfl hfin.out Tryd.underlying54 rfl hi34.out
          · rw [← HX.out, ← HY.out]

def fixedCells (g1 g2 : Nat) : List Value := ints Fo.csF ++ (Value.slice (some ⟨g1, 0, none⟩) Fo.ssF.length Fo.ssF.length :: (ints Fo.cdF ++ [Value.slice (some ⟨g2, 0, none⟩) Fo.sdF.length Fo.sdF.length]))
theorem csF_sum : Fo.csF.sum = Fo.ssF.length ∧ Fo.cdF.sum = Fo.sdF.length := by decide +kernel
theorem fixedCells_length (g1 g2 : Nat) : (fixedCells g1 g2).length = 34 := by
  unfold fixedCells ints
  rw [List.length_append, List.length_map, csF_len, List.length_cons, List.length_append, List.length_map, cdF_len]; rfl

theorem fixedCodes_ok : Calls Tryd.prog 35 #[] w fun e w' => ∃ g1 g2, e = .returned (.agg (fixedCells g1 g2).toArray) ∧ IntRow w' g1 Fo.ssF ∧ IntRow w' g2 Fo.sdF ∧ Below w.heap.size w w' ∧ w.heap.size ≤ g1 ∧ w.heap.size ≤ g2 := by
  refine (fixedCodes_gen Fo.lensFixed Fo.distFixed lens_len dist_len (fun k hk => lens_nth ⟨k, hk⟩) (fun k hk => dist_nth ⟨k, hk⟩)).mono ?_
  rintro e w' ⟨g1, g2, rfl, i1, i2, b, h1, h2⟩
  rw [fixed_cz.1, fixed_cz.2.2.1, csF_sum.1, csF_sum.2]
  rw [fixed_cz.2.1] at i1
  rw [fixed_cz.2.2.2] at i2
  refine ⟨g1, g2, ?_, i1, i2, b, h1, h2⟩
  unfold fixedCells
  rw [List.append_assoc]; rfl
end Go.Proofs.YtgkljcmjnphpeaaDoor
