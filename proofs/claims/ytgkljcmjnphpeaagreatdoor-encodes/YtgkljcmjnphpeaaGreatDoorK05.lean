/- codesOf: what lengths make of symbols. -/
import Derived.Test.YtgkljcmjnphpeaaGreatDoorK01
import Derived.Test.YtgkljcmjnphpeaaGreatDoorK00
import Derived.Test.YtgkljcmjnphpeaaGreatDoorK04
import Derived.Deep.MidRow
import Derived.BigRegion
set_option linter.unusedVariables false
set_option linter.unusedSimpArgs false
namespace Go.Proofs.YtgkljcmjnphpeaaGreatDoor
theorem nth_set_self (l : List Nat) (i x : Nat) (h : i < l.length) : nth (l.set i x) i = x := by simp [nth, h]
theorem nth_set_ne (l : List Nat) (i j x : Nat) (h : i ≠ j) : nth (l.set i x) j = nth l j := by simp [nth, List.getElem?_set_ne h]
theorem list_ext (a b : List Nat) (hl : a.length = b.length) (h : ∀ i, i < a.length → nth a i = nth b i) : a = b := by
  apply List.ext_getElem hl
  intro i h1 h2
  have := h i h1
  simpa [nth, h1, h2] using this
theorem nth_rep (n i x : Nat) (h : i < n) : nth (List.replicate n x) i = x := by simp [nth, h]
def cnt (l : List Nat) : List Nat := (List.range 16).map fun j => l.count j
theorem cnt_length (l : List Nat) : (cnt l).length = 16 := by simp [cnt]
theorem nth_cnt (l : List Nat) (j : Nat) (h : j < 16) : nth (cnt l) j = l.count j := by simp [nth, cnt, h]
theorem cnt_snoc (l : List Nat) (x : Nat) (hx : x < 16) : cnt (l ++ [x]) = (cnt l).set x (nth (cnt l) x + 1) := by
  refine list_ext _ _ (by simp [cnt_length]) ?_
  intro i hi
  rw [cnt_length] at hi
  rw [nth_cnt _ _ hi, List.count_append]
  by_cases h : x = i
  · subst h; rw [nth_set_self _ _ _ (by rw [cnt_length]; exact hx), nth_cnt _ _ hx]; simp
  · rw [nth_set_ne _ _ _ _ h, nth_cnt _ _ hi]; simp [h]
def cz (l : List Nat) : List Nat := (cnt l).set 0 0
theorem cz_length (l : List Nat) : (cz l).length = 16 := by simp [cz, cnt_length]
theorem nth_cz0 (l : List Nat) : nth (cz l) 0 = 0 := nth_set_self _ _ _ (by rw [cnt_length]; omega)
theorem nth_cz (l : List Nat) (j : Nat) (h0 : 0 < j) (h : j < 16) : nth (cz l) j = l.count j := by rw [cz, nth_set_ne _ _ _ _ (by omega), nth_cnt _ _ h]
def pre (c : List Nat) (j : Nat) : Nat := (c.take j).sum
theorem pre_succ (c : List Nat) (j : Nat) (h : j < c.length) : pre c (j + 1) = pre c j + nth c j := by
  unfold pre; rw [List.take_succ_eq_append_getElem h, List.sum_append]; simp [nth, h]
theorem pre_mono (c : List Nat) (a b : Nat) (h : a ≤ b) : pre c a ≤ pre c b := by
  induction b with
  | zero => obtain rfl : a = 0 := by omega
            exact Nat.le_refl _
  | succ b ih =>
    rcases Nat.lt_or_ge a (b + 1) with h1 | h1
    · refine Nat.le_trans (ih (by omega)) ?_
      rcases Nat.lt_or_ge b c.length with h2 | h2
      · rw [pre_succ _ _ h2]; omega
      · unfold pre; rw [List.take_of_length_le h2, List.take_of_length_le (by omega)]; exact Nat.le_refl _
    · obtain rfl : a = b + 1 := by omega
      exact Nat.le_refl _
theorem pre_all (c : List Nat) (h : c.length = 16) : pre c 16 = c.sum := by unfold pre; rw [List.take_of_length_le (by omega)]
/-- Where each length's codes begin, as far as it has been reckoned. -/
def pl (c : List Nat) (m : Nat) : List Nat := (List.range 16).map fun j => if j ≤ m then pre c j else 0
theorem pl_length (c : List Nat) (m : Nat) : (pl c m).length = 16 := by simp [pl]
theorem nth_pl (c : List Nat) (m j : Nat) (h : j < 16) : nth (pl c m) j = if j ≤ m then pre c j else 0 := by simp [nth, pl, h]
theorem pl_zero (c : List Nat) : pl c 0 = List.replicate 16 0 := by
  refine list_ext _ _ (by simp [pl_length]) ?_
  intro i hi
  rw [pl_length] at hi
  rw [nth_pl _ _ _ hi]
  by_cases h : i ≤ 0
  · obtain rfl : i = 0 := by omega
    simp [pre, nth]
  · rw [if_neg h, nth_rep _ _ _ hi]
theorem pl_step (c : List Nat) (m : Nat) (hm : m < 15) (hc : c.length = 16) : pl c (m + 1) = (pl c m).set (m + 1) (nth (pl c m) m + nth c m) := by
  refine list_ext _ _ (by simp [pl_length]) ?_
  intro i hi
  rw [pl_length] at hi
  rw [nth_pl _ _ _ hi, nth_pl _ _ _ (by omega), if_pos (Nat.le_refl m)]
  by_cases h : m + 1 = i
  · subst h
    rw [nth_set_self _ _ _ (by rw [pl_length]; omega), if_pos (Nat.le_refl _), pre_succ _ _ (by omega)]
  · rw [nth_set_ne _ _ _ _ h, nth_pl _ _ _ hi]
    by_cases h2 : i ≤ m
    · rw [if_pos h2, if_pos (by omega)]
    · rw [if_neg h2, if_neg (by omega)]
/-- Places and symbols behind the first so many lengths. -/
def fillTo (l : List Nat) : Nat → List Nat × List Nat
  | 0 => (pl (cz l) 15, List.replicate (cz l).sum 0)
  | k + 1 => if nth l k = 0 then fillTo l k else ((fillTo l k).1.set (nth l k) (nth (fillTo l k).1 (nth l k) + 1), (fillTo l k).2.set (nth (fillTo l k).1 (nth l k)) k)
theorem fillTo_inv (l : List Nat) (hl : ∀ i, i < l.length → nth l i < 16) : ∀ k, k ≤ l.length →
    (fillTo l k).1.length = 16 ∧ (fillTo l k).2.length = (cz l).sum ∧ ∀ x, 0 < x → x < 16 → nth (fillTo l k).1 x = pre (cz l) x + (l.take k).count x
  | 0, _ => ⟨pl_length _ _, by simp [fillTo], fun x h0 hx => by simp [fillTo, nth_pl _ _ _ hx, show x ≤ 15 by omega]⟩
  | k + 1, hk => by
    obtain ⟨h1, h2, h3⟩ := fillTo_inv l hl k (by omega)
    have hlk := hl k (by omega)
    have e : l.take (k + 1) = l.take k ++ [nth l k] := by rw [List.take_succ_eq_append_getElem (by omega)]; simp [nth, show k < l.length by omega]
    unfold fillTo
    by_cases c : nth l k = 0
    · rw [if_pos c]
      refine ⟨h1, h2, fun x h0 hx => ?_⟩
      have h7 : ¬ 0 = x := by omega
      rw [h3 x h0 hx, e, List.count_append, c]; simp [h7]
    · rw [if_neg c]
      refine ⟨by simp [h1], by simp [h2], fun x h0 hx => ?_⟩
      by_cases hx2 : nth l k = x
      · subst hx2
        rw [nth_set_self _ _ _ (by omega), h3 _ h0 hx, e, List.count_append]; simp; omega
      · rw [nth_set_ne _ _ _ _ hx2, h3 x h0 hx, e, List.count_append]; simp [hx2]
theorem fillTo_lt (l : List Nat) (hl : ∀ i, i < l.length → nth l i < 16) (k : Nat) (hk : k < l.length) (h0 : 0 < nth l k) : nth (fillTo l k).1 (nth l k) < (cz l).sum := by
  obtain ⟨_, _, h3⟩ := fillTo_inv l hl k (by omega)
  have hx := hl k hk
  rw [h3 _ h0 hx]
  have e : l = l.take k ++ (nth l k :: l.drop (k + 1)) := by
    have : nth l k = l[k] := by simp [nth, hk]
    rw [this, ← List.drop_eq_getElem_cons hk, List.take_append_drop]
  have hc : (l.take k).count (nth l k) < l.count (nth l k) := by
    have h4 := congrArg (List.count (nth l k)) e
    rw [List.count_append, List.count_cons_self] at h4
    omega
  have h5 := pre_succ (cz l) (nth l k) (by rw [cz_length]; exact hx)
  rw [nth_cz _ _ h0 hx] at h5
  have h6 := pre_mono (cz l) (nth l k + 1) 16 (by omega)
  rw [pre_all _ (cz_length l)] at h6
  omega
theorem cz_sum_le (l : List Nat) (hl : ∀ i, i < l.length → nth l i < 16) : (cz l).sum ≤ 16 * l.length := by
  have : ∀ c : List Nat, (∀ i, i < c.length → nth c i ≤ l.length) → c.sum ≤ c.length * l.length := by
    intro c
    induction c with
    | nil => simp
    | cons a c ih =>
      intro h
      have h1 := ih (fun i hi => h (i + 1) (by simpa using hi))
      have h2 : a ≤ l.length := h 0 (by simp)
      simp only [List.sum_cons, List.length_cons, Nat.add_mul, Nat.one_mul]; omega
  have h := this (cz l) (fun i hi => by
    rw [cz_length] at hi
    by_cases h0 : i = 0
    · subst h0; rw [nth_cz0]; omega
    · rw [nth_cz _ _ (by omega) hi]; exact List.count_le_length)
  rw [cz_length] at h; exact h
theorem fixed_cz : cz Fo.lensFixed = Fo.csF ∧ (fillTo Fo.lensFixed 288).2 = Fo.ssF ∧ cz Fo.distFixed = Fo.cdF ∧ (fillTo Fo.distFixed 32).2 = Fo.sdF := by
  refine ⟨by decide +kernel, by decide +kernel, by decide +kernel, by decide +kernel⟩
end Go.Proofs.YtgkljcmjnphpeaaGreatDoor
namespace Go.Proofs.YtgkljcmjnphpeaaGreatDoor
open Go.RowKit
variable {w : World}
def zero17 : Obj := .cells (ints (List.replicate 16 0) ++ [Value.slice none 0 0]).toArray 162 (0, 0)
/-- While counts are taken: the result's block, the codes' block. -/
structure Co1 (w : World) (wr : World) (c : List Nat) : Prop where
  below : Below w.heap.size w wr
  size : wr.heap.size = w.heap.size + 2
  res : wr.heap[w.heap.size]? = some zero17
  cod : wr.heap[w.heap.size + 1]? = some (.cells (ints c ++ [Value.slice none 0 0]).toArray 162 (0, 0))
  len : c.length = 16
theorem Co1.cell {wr : World} {c : List Nat} (h : Co1 w wr c) (i : Nat) (hi : i < 16) : wr.cell? ⟨w.heap.size + 1, i, none⟩ = some (.int .i64 (nth c i : Nat)) := by
  rw [cell_blk h.cod]
  have := h.len
  simp [ints, nth, List.getElem?_append_left, this, hi]
theorem Co1.set {wr : World} {c : List Nat} (h : Co1 w wr c) (i x : Nat) (hi : i < 16) : Co1 w (wr.setCell ⟨w.heap.size + 1, i, none⟩ (.int .i64 x)) (c.set i x) := by
  have hlen := h.len
  refine ⟨h.below.setCell (by show w.heap.size ≤ w.heap.size + 1; omega) _, by simp [h.size], ?_, ?_, by simp [h.len]⟩
  · rw [blk_setCell_ne _ (by omega)]; exact h.res
  · rw [blk_setCell _ h.cod]
    have : i < (ints c).length := by simp [ints, hlen, hi]
    simp only [List.setIfInBounds_toArray, List.set_append_left _ _ this]
    simp [ints, List.map_set]
/-- Behind the counts: the codes' block with v for its symbols, and the places' block. -/
structure Co2 (w : World) (wr : World) (c P : List Nat) (v : Value) : Prop where
  below : Below w.heap.size w wr
  size : w.heap.size + 3 ≤ wr.heap.size
  res : wr.heap[w.heap.size]? = some zero17
  cod : wr.heap[w.heap.size + 1]? = some (.cells (ints c ++ [v]).toArray 162 (0, 0))
  plc : wr.heap[w.heap.size + 2]? = some (.cells (ints P).toArray 160 (0, 0))
  len : c.length = 16
  lep : P.length = 16
theorem Co2.cell {wr : World} {c P : List Nat} {v : Value} (h : Co2 w wr c P v) (i : Nat) (hi : i < 16) : wr.cell? ⟨w.heap.size + 1, i, none⟩ = some (.int .i64 (nth c i : Nat)) := by
  rw [cell_blk h.cod]
  have := h.len
  simp [ints, nth, List.getElem?_append_left, this, hi]
theorem Co2.cell16 {wr : World} {c P : List Nat} {v : Value} (h : Co2 w wr c P v) : wr.cell? ⟨w.heap.size + 1, 16, none⟩ = some v := by
  rw [cell_blk h.cod]
  have := h.len
  simp [ints, List.getElem?_append_right, this]
theorem Co2.place {wr : World} {c P : List Nat} {v : Value} (h : Co2 w wr c P v) (i : Nat) (hi : i < 16) : wr.cell? ⟨w.heap.size + 2, i, none⟩ = some (.int .i64 (nth P i : Nat)) := by
  rw [cell_blk h.plc]
  have := h.lep
  simp [ints, nth, this, hi]
theorem Co2.drew {wr : World} {c P : List Nat} {v : Value} (h : Co2 w wr c P v) : Co2 w wr.drew c P v := ⟨h.below.drew, h.size, h.res, h.cod, h.plc, h.len, h.lep⟩
theorem Co2.setP {wr : World} {c P : List Nat} {v : Value} (h : Co2 w wr c P v) (i x : Nat) (hi : i < 16) : Co2 w (wr.setCell ⟨w.heap.size + 2, i, none⟩ (.int .i64 x)) c (P.set i x) v := by
  refine ⟨h.below.setCell (by show w.heap.size ≤ w.heap.size + 2; omega) _, by simp [h.size], ?_, ?_, ?_, h.len, by simp [h.lep]⟩
  · rw [blk_setCell_ne _ (by omega)]; exact h.res
  · rw [blk_setCell_ne _ (by omega)]; exact h.cod
  · rw [blk_setCell _ h.plc]; simp [ints, List.map_set]
theorem Co2.setV {wr : World} {c P : List Nat} {v : Value} (h : Co2 w wr c P v) (u : Value) : Co2 w (wr.setCell ⟨w.heap.size + 1, 16, none⟩ u) c P u := by
  have hlen := h.len
  refine ⟨h.below.setCell (by show w.heap.size ≤ w.heap.size + 1; omega) _, by simp [h.size], ?_, ?_, ?_, h.len, h.lep⟩
  · rw [blk_setCell_ne _ (by omega)]; exact h.res
  · rw [blk_setCell _ h.cod]
    have : (ints c).length = 16 := by simp [ints, hlen]
    simp only [List.setIfInBounds_toArray]
    rw [List.set_append_right _ _ (by omega), this]; rfl
  · rw [blk_setCell_ne _ (by omega)]; exact h.plc
theorem Co2.other {wr : World} {c P : List Nat} {v : Value} (h : Co2 w wr c P v) (a : Addr) (u : Value) (ha : w.heap.size + 3 ≤ a.block) : Co2 w (wr.setCell a u) c P v := by
  refine ⟨h.below.setCell (by omega) _, by simp [h.size], ?_, ?_, ?_, h.len, h.lep⟩
  · rw [Below.heap_setCell _ _ _ _ (by omega)]; exact h.res
  · rw [Below.heap_setCell _ _ _ _ (by omega)]; exact h.cod
  · rw [Below.heap_setCell _ _ _ _ (by omega)]; exact h.plc
theorem Co2.grown {wr w1 : World} {c P : List Nat} {v : Value} (h : Co2 w wr c P v) (hg : wr.grownBy w1 none) : Co2 w w1 c P v := by
  have hs := h.size
  refine ⟨h.below.grown hg (by omega) (fun k h => by cases h), by have := hg.size; omega, ?_, ?_, ?_, h.len, h.lep⟩
  · rw [hg.block _ (by omega) (by simp)]; exact h.res
  · rw [hg.block _ (by omega) (by simp)]; exact h.cod
  · rw [hg.block _ (by omega) (by simp)]; exact h.plc
theorem co2_start {wr : World} {l : List Nat} (co : Co1 w wr (cnt l)) : Co2 w ((wr.setCell ⟨w.heap.size + 1, 0, none⟩ (.int .i64 0)).alloc (.cells (ints (List.replicate 16 0)).toArray 160 (0, 0))) (cz l) (pl (cz l) 0) (.slice none 0 0) := by
  have h1 : Co1 w (wr.setCell ⟨w.heap.size + 1, 0, none⟩ (.int .i64 0)) (cz l) := co.set 0 0 (by omega)
  refine ⟨h1.below.alloc (by rw [h1.size]; omega) _, by rw [World.size_alloc, h1.size]; omega, blk_alloc _ h1.res, blk_alloc _ h1.cod, ?_, cz_length l, pl_length _ _⟩
  rw [pl_zero]
  have := blk_new (wr.setCell ⟨w.heap.size + 1, 0, none⟩ (.int .i64 0)) (.cells (ints (List.replicate 16 0)).toArray 160 (0, 0))
  rw [h1.size] at this
  exact this
theorem row_made {w1 : World} {B g N : Nat} (h : w1.ownsRow B 3 1 (.slice (some ⟨g, 0, none⟩) N N) N (madeCells (Value.cells (.int .i64 0)) (N * 1)).toList) : w1.heap[g]? = some (.cells (ints (List.replicate N 0)).toArray 3 (0, 0)) := by
  rcases h.2 with ⟨h0, _⟩ | ⟨g', cap, cur, hv, _, hh, _, _, hcs, ht⟩
  · cases h0
  cases hv
  have e : cur.toList = (madeCells (Value.cells (.int .i64 0)) (N * 1)).toList := by
    rw [← ht, List.take_of_length_le (by rw [Array.length_toList, hcs]; omega)]
  have e2 : (madeCells (Value.cells (.int .i64 0)) (N * 1)).toList = ints (List.replicate N 0) := by
    show (madeCells #[Value.int .i64 0] (N * 1)).toList = _
    rw [toList_madeCells_one]; simp [ints]
  rw [hh, ← e2, ← e]
theorem there17 {wr : World} {b : Nat} (h : wr.heap[b]? = some zero17) : wr.there b 0 17 := by
  intro j hj
  have h' : wr.heap[b]? = some (.cells (ints (List.replicate 16 0) ++ [Value.slice none 0 0]).toArray 162 (0, 0)) := h
  refine ⟨?_, free_blk h'⟩
  rw [cell_blk h', List.getElem?_toArray, List.getElem?_eq_getElem (by simp [ints]; omega)]; rfl
theorem one17 (c : List Nat) (a : Option Addr) {n m : Nat} : (ints c ++ [Value.slice a n m]).toArray.all (·.oneCell') = true := by
  simp [ints, Value.oneCell']
theorem Tryz.infoInt : (Tryz.prog.info? 3).map (fun i => (i.zero, i.size, i.bytes)) = some (some (.int .i64 0), 1, 8) := by kernel_rfl
set_option maxRecDepth 100000 in
set_option maxHeartbeats 2000000 in
theorem codesOf_ok (gl ol cap : Nat) (l : List Nat) (hl : ∀ i, i < l.length → nth l i < 16) (hn : l.length ≤ 320) (hg : gl < w.heap.size) (hc : ∀ i, i < l.length → w.cell? ⟨gl, ol + i, none⟩ = some (.int .i64 (nth l i : Nat))) :
    Calls Tryz.prog 219 #[.slice (some ⟨gl, ol, none⟩) l.length cap] w fun e w' => ∃ g, e = .returned (.agg (ints (cz l) ++ [Value.slice (some ⟨g, 0, none⟩) (cz l).sum (cz l).sum]).toArray) ∧ IntRow w' g (fillTo l l.length).2 ∧ Below w.heap.size w w' ∧ w.heap.size ≤ g := by
  go_enter Tryz.func219, Tryz.ntmps219
  go_wp2
  go_loopw [12] (fun i wr => ∃ k : Nat, k ≤ l.length ∧ i = .int .i64 k ∧ Co1 w wr (cnt (l.take k))) (fun i _ => l.length - (intOf i).toNat)
  case atStart =>
    refine ⟨0, Nat.zero_le _, rfl, ⟨((Below.refl _ _).alloc (Nat.le_refl _) _).alloc (by simp) _, by simp, ?_, ?_, cnt_length _⟩⟩
    · exact blk_alloc _ (blk_new w zero17)
    · have := blk_new (w.alloc zero17) (.cells (ints (cnt (l.take 0)) ++ [Value.slice none 0 0]).toArray 162 (0, 0))
      have e : (w.alloc zero17).heap.size = w.heap.size + 1 := by simp
      rw [e] at this
      exact this
  case round =>
    obtain ⟨k, hk, rfl, co⟩ := hrel
    by_cases hlt : k < l.length
    · have hx := hl k hlt
      have c1 : wr.cell? ⟨gl, ol + k, none⟩ = some (.int .i64 (nth l k : Nat)) := (co.below.cell (p := ⟨gl, ol + k, none⟩) hg).trans (hc k hlt)
      have c2 := co.cell (nth l k) hx
      have f2 : wr.frozen? ⟨w.heap.size + 1, nth l k, none⟩ = false := free_blk co.cod
      have hcn := nth_cnt (l.take k) (nth l k) hx
      have hcb : nth (cnt (l.take k)) (nth l k) ≤ 320 := by rw [hcn]; refine Nat.le_trans List.count_le_length ?_; rw [List.length_take]; omega
      have HS := hide (cnt_snoc (l.take k) (nth l k) hx)
      have HT : Hid (l.take (k + 1) = l.take k ++ [nth l k]) := by unfold Hid; rw [List.take_succ_eq_append_getElem hlt]; simp [nth, hlt]
      clear hcn
      generalize hC : cnt (l.take k) = C at *
      clear hC
      generalize hX : nth l k = X at *
      clear hX
      have hx' : (X : Int) < 16 := by omega
      go_wp2
      go_roundw
      case rel =>
        refine ⟨k + 1, by omega, by go_num, ?_⟩
        rw [HT.out, HS.out]
        have := co.set X (nth C X + 1) hx
        simpa using this
      case measure => simp [intOf]; omega
    · obtain rfl : k = l.length := by omega
      rw [List.take_length] at co
      have c0 := co.cell 0 (by omega)
      have f0 : wr.frozen? ⟨w.heap.size + 1, 0, none⟩ = false := free_blk co.cod
      have hsz := co.size
      have hsum := cz_sum_le l hl
      have hstart := co2_start co
      obtain ⟨i0, hi, hz0, hz1, hz2⟩ := info_parts Tryz.infoInt
      clear co hlt hk
      obtain ⟨wo, hwo⟩ : ∃ wo : World, wo = wr := ⟨_, rfl⟩
      subst hwo
      have HL := hide hl
      have HC := hide hc
      have HN := hide (And.intro hn (And.intro hg hsum))
      clear hl hc hn hg hsum
      go_wp2
      go_loopw [7] (fun m wr => ∃ k : Nat, k ≤ 15 ∧ m = .int .i64 ((k : Int) + 1) ∧ Co2 w wr (cz l) (pl (cz l) k) (.slice none 0 0)) (fun m _ => 16 - (intOf m).toNat)
      case atStart => exact ⟨0, by omega, rfl, hstart⟩
      clear hstart c0 f0
      case round =>
        obtain ⟨k, hk, rfl, co⟩ := hrel
        clear hsz
        by_cases hlt : k < 15
        · have hlt' : (k : Int) + 1 ≤ 15 := by omega
          have p0 := co.place k (by omega)
          have p1 := co.place (k + 1) (by omega)
          have q0 := co.cell k (by omega)
          have f1 : wr.frozen? ⟨w.heap.size + 2, k + 1, none⟩ = false := free_blk co.plc
          have hb1 := pre_mono (cz l) k 16 (by omega)
          rw [pre_all _ (cz_length l)] at hb1
          have hb2 : nth (pl (cz l) k) k ≤ 5120 := by rw [nth_pl _ _ _ (by omega), if_pos (Nat.le_refl _)]; have := HN.out; omega
          have hb3 : nth (cz l) k ≤ 320 := by
            by_cases h0 : k = 0
            · subst h0; rw [nth_cz0]; omega
            · rw [nth_cz _ _ (by omega) (by omega)]; exact Nat.le_trans List.count_le_length HN.out.1
          have HSTEP := hide (pl_step (cz l) k hlt (cz_length l))
          clear hb1
          generalize hA : nth (pl (cz l) k) k = A at *
          generalize hB : nth (cz l) k = Bc at *
          generalize hD : nth (pl (cz l) k) (k + 1) = Dd at *
          clear hA hB hD
          go_wp2_with fail
          go_region
          go_wp2
          go_roundw
          case rel =>
            refine ⟨k + 1, by omega, by go_num, ?_⟩
            rw [HSTEP.out]
            have := (co.setP (k + 1) (A + Bc) (by omega)).drew
            simpa using this
          case measure => simp [intOf]; omega
        · obtain rfl : k = 15 := by omega
          have p0 := co.place 15 (by omega)
          have q0 := co.cell 15 (by omega)
          have hAB : nth (pl (cz l) 15) 15 + nth (cz l) 15 = (cz l).sum := by
            rw [nth_pl _ _ _ (by omega), if_pos (Nat.le_refl _), ← pre_succ _ _ (by rw [cz_length]; omega), pre_all _ (cz_length l)]
          have hN : (cz l).sum ≤ 5120 := by have := HN.out; omega
          have hB3 := co.size
          obtain ⟨wq, hwq⟩ : ∃ wq : World, wq = wr := ⟨_, rfl⟩
          subst hwq
          have l1 : nth (pl (cz l) 15) 15 + nth (cz l) 15 ≤ (cz l).sum := by omega
          have l2 : (cz l).sum ≤ nth (pl (cz l) 15) 15 + nth (cz l) 15 := by omega
          clear hAB
          generalize hA : nth (pl (cz l) 15) 15 = A at p0 l1 l2
          generalize hB : nth (cz l) 15 = Bc at q0 l1 l2
          clear hA hB hlt hk
          generalize hNN : (cz l).sum = N at hN l1 l2
          have HNN := hide hNN
          clear hNN
          go_wp2_with (at_make; refine wpList_make_full _ rfl _ _ 52 rfl (w.heap.size + 3) 3 i0 (.int .i64 0) 1 Tryz.underlying52 hi hz0 hz1 .i64 .i64 _ _ N rfl rfl (by omega) (by omega) (by rw [hz2]; omega) (by unfold maxLen; omega) hB3 ?_; intro w1 hown1 hg1; have co1 := co.grown hg1; have k16 := co1.cell16; have f16 : w1.frozen? ⟨w.heap.size + 1, 16, none⟩ = false := free_blk co1.cod; have hrow := row_made hown1)
          have st := co1.setV (.slice (some ⟨wq.heap.size, 0, none⟩) N N)
          have rw0 : (w1.setCell ⟨w.heap.size + 1, 16, none⟩ (.slice (some ⟨wq.heap.size, 0, none⟩) N N)).heap[wq.heap.size]? = some (.cells (ints (List.replicate N 0)).toArray 3 (0, 0)) := by
            rw [blk_setCell_ne _ (by omega)]; exact hrow
          have HST : Hid (Co2 w (w1.setCell ⟨w.heap.size + 1, 16, none⟩ (.slice (some ⟨wq.heap.size, 0, none⟩) N N)) (cz l) (fillTo l 0).1 (.slice (some ⟨wq.heap.size, 0, none⟩) N N) ∧ (w1.setCell ⟨w.heap.size + 1, 16, none⟩ (.slice (some ⟨wq.heap.size, 0, none⟩) N N)).heap[wq.heap.size]? = some (.cells (ints (fillTo l 0).2).toArray 3 (0, 0))) := ⟨st, by unfold fillTo; rw [HNN.out]; exact rw0⟩
          clear st rw0 hown1 hg1 co1 k16 f16 hrow co p0 q0 l1 l2
          go_loopw [52] (fun i wr => ∃ k : Nat, k ≤ l.length ∧ i = .int .i64 k ∧ Hid (Co2 w wr (cz l) (fillTo l k).1 (.slice (some ⟨wq.heap.size, 0, none⟩) N N) ∧ wr.heap[wq.heap.size]? = some (.cells (ints (fillTo l k).2).toArray 3 (0, 0)))) (fun i _ => l.length - (intOf i).toNat)
          case atStart => exact ⟨0, Nat.zero_le _, rfl, HST⟩
          clear HST
          case round =>
            obtain ⟨k, hk, rfl, HH⟩ := hrel
            obtain ⟨co, hrow⟩ := HH.out
            clear HH
            have hk320 : k ≤ 320 := by have := HN.out; omega
            have hkk : (k : Int) ≤ 320 := by omega
            by_cases hlt : k < l.length
            · have hx := HL.out k hlt
              have c1 : wr.cell? ⟨gl, ol + k, none⟩ = some (.int .i64 (nth l k : Nat)) := (co.below.cell (p := ⟨gl, ol + k, none⟩) HN.out.2.1).trans (HC.out k hlt)
              by_cases h0 : 0 < nth l k
              · have hlt2 := fillTo_lt l HL.out k hlt h0
                obtain ⟨_, i2, _⟩ := fillTo_inv l HL.out k (by omega)
                rw [HNN.out] at hlt2 i2
                have c2 := co.place (nth l k) hx
                have f2 : wr.frozen? ⟨w.heap.size + 2, nth l k, none⟩ = false := free_blk co.plc
                have c3 := co.cell16
                have c4 : ∃ u, wr.cell? ⟨wq.heap.size, nth (fillTo l k).1 (nth l k), none⟩ = some u := by
                  rw [cell_blk hrow]
                  have : nth (fillTo l k).1 (nth l k) < (ints (fillTo l k).2).length := by simp only [ints, List.length_map]; omega
                  exact ⟨_, by rw [List.getElem?_toArray, List.getElem?_eq_getElem this]⟩
                obtain ⟨u4, c4⟩ := c4
                have f4 : wr.frozen? ⟨wq.heap.size, nth (fillTo l k).1 (nth l k), none⟩ = false := free_blk hrow
                have hstep : fillTo l (k + 1) = ((fillTo l k).1.set (nth l k) (nth (fillTo l k).1 (nth l k) + 1), (fillTo l k).2.set (nth (fillTo l k).1 (nth l k)) k) := by
                  conv => lhs; unfold fillTo
                  rw [if_neg (by omega)]
                have HSTEP := hide hstep
                have hco := hide (And.intro co hrow)
                clear hstep i2 co hrow
                generalize hP : nth (fillTo l k).1 (nth l k) = Pp at *
                generalize hX : nth l k = X at *
                clear hP hX
                have hx' : (X : Int) < 16 := by omega
                have h0' : (0 : Int) < (X : Int) := by omega
                have hl2 : (Pp : Int) < (N : Int) := by omega
                go_wp2_with fail
                go_region
                go_wp2
                go_roundw
                case rel =>
                  refine ⟨k + 1, by omega, by go_num, ?_⟩
                  rw [HSTEP.out]
                  have h1 := (((hco.out.1).other ⟨wq.heap.size, Pp, none⟩ (.int .i64 k) hB3).setP X (Pp + 1) hx).drew
                  have h2 : ((wr.setCell ⟨wq.heap.size, Pp, none⟩ (.int .i64 k)).setCell ⟨w.heap.size + 2, X, none⟩ (.int .i64 (Pp + 1 : Nat))).drew.heap[wq.heap.size]? = some (.cells (ints ((fillTo l k).2.set Pp k)).toArray 3 (0, 0)) := by
                    show ((wr.setCell ⟨wq.heap.size, Pp, none⟩ (.int .i64 k)).setCell ⟨w.heap.size + 2, X, none⟩ (.int .i64 (Pp + 1 : Nat))).heap[wq.heap.size]? = _
                    rw [blk_setCell_ne _ (by omega), blk_setCell _ hco.out.2]; simp [ints, List.map_set]
                  have := And.intro h1 h2
                  simpa [Hid] using this
                case measure => simp [intOf]; omega
              · have hz : nth l k = 0 := by omega
                have hstep : fillTo l (k + 1) = fillTo l k := by
                  conv => lhs; unfold fillTo
                  rw [if_pos hz]
                have HSTEP := hide hstep
                have hco := hide (And.intro co hrow)
                rw [hz] at c1
                clear hstep co hrow hz h0 hx
                go_wp2
                go_roundw
                case rel =>
                  refine ⟨k + 1, by omega, by go_num, ?_⟩
                  rw [HSTEP.out]; exact hco.out
                case measure => simp [intOf]; omega
            · obtain rfl : k = l.length := by omega
              have hr1 : wr.rangeAt (w.heap.size + 1) 0 (ints (cz l) ++ [.slice (some ⟨wq.heap.size, 0, none⟩) N N]) := by
                intro j v hv
                rw [Nat.zero_add, cell_blk co.cod]; simpa using hv
              have hlen17 : (ints (cz l) ++ [Value.slice (some ⟨wq.heap.size, 0, none⟩) N N]).length = 17 := by simp [ints, cz_length]
              have hi17 : (Tryz.prog.info? 162).map (·.size) = some (ints (cz l) ++ [Value.slice (some ⟨wq.heap.size, 0, none⟩) N N]).length := by rw [hlen17]; kernel_rfl
              have ht17 : wr.there w.heap.size 0 (ints (cz l) ++ [Value.slice (some ⟨wq.heap.size, 0, none⟩) N N]).toArray.size := by
                have e : (ints (cz l) ++ [Value.slice (some ⟨wq.heap.size, 0, none⟩) N N]).toArray.size = 17 := List.size_toArray.trans hlen17
                rw [e]; exact there17 co.res
              have hone : (ints (cz l) ++ [Value.slice (some ⟨wq.heap.size, 0, none⟩) N N]).toArray.all (·.oneCell') = true := one17 _ _
              have hfin : (wr.setCells w.heap.size 0 (ints (cz l) ++ [Value.slice (some ⟨wq.heap.size, 0, none⟩) N N])).heap[w.heap.size]? = some (.cells (ints (cz l) ++ [Value.slice (some ⟨wq.heap.size, 0, none⟩) N N]).toArray 162 (0, 0)) :=
                setCells_whole co.res (by rw [hlen17]; rfl)
              have hrow2 : IntRow (wr.setCells w.heap.size 0 (ints (cz l) ++ [Value.slice (some ⟨wq.heap.size, 0, none⟩) N N])) wq.heap.size (fillTo l l.length).2 := by
                refine ⟨_, _, by rw [setCells_ne _ (by omega)]; exact hrow, fun i hi => ?_⟩
                rw [List.getElem?_toArray]; exact ints_get _ _ hi
              have hbel2 : Below w.heap.size w (wr.setCells w.heap.size 0 (ints (cz l) ++ [Value.slice (some ⟨wq.heap.size, 0, none⟩) N N])) := setCells_below _ _ (Nat.le_refl _) _ _ _ _ co.below
              have HF := hide (And.intro hfin (And.intro hrow2 hbel2))
              clear hfin hrow2 hbel2
              have HCO := hide (And.intro co hrow)
              have HI := hide hi17
              have HR1 := hide hr1
              have HT17 := hide ht17
              clear co hrow hi17 hlen17 hr1 ht17
              go_wp2_with (first | (refine wpList_load_mid rfl 162 (.tmp 3) rfl (w.heap.size + 1) 0 rfl _ _ HR1.out Tryz.underlying162 rfl HI.out ?_) | (refine wpList_store_mid rfl 162 (.tmp 2) (.tmp 72) rfl w.heap.size 0 _ rfl rfl HT17.out (by rw [List.size_toArray]; exact HI.out) hone ?_))
              have hz17 : (Tryz.prog.info? 162).map (·.size) = some (ints (cz l) ++ [Value.slice (some ⟨wq.heap.size, 0, none⟩) N N]).toArray.size := by rw [List.size_toArray]; exact HI.out
              refine bodyPost_ret (v := .agg (ints (cz l) ++ [Value.slice (some ⟨wq.heap.size, 0, none⟩) N N]).toArray) ?_ rfl ⟨wq.heap.size, by rw [HNN.out], HF.out.2.1, HF.out.2.2, by omega⟩
              exact results_cell_row Tryz.results219 _ _ w.heap.size 162 _ _ _ rfl HF.out.1 Tryz.underlying162 rfl hz17
end Go.Proofs.YtgkljcmjnphpeaaGreatDoor
