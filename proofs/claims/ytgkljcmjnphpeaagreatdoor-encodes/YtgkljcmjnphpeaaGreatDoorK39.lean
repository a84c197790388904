/- The document's answer: Do, filter 1. -/
import Derived.Test.YtgkljcmjnphpeaaGreatDoorK33
import Derived.Test.YtgkljcmjnphpeaaGreatDoorK34
import Derived.Test.YtgkljcmjnphpeaaGreatDoorK36
import Derived.Test.YtgkljcmjnphpeaaGreatDoorK38
import Derived.Laws.CopyRow
import Derived.Deep.AppendSrc
import Derived.Test.YtgkljcmjnphpeaaGreatDoorK14
import Derived.Test.YtgkljcmjnphpeaaGreatDoorK37
set_option linter.unusedVariables false
set_option linter.unusedSimpArgs false
namespace Go.Proofs.YtgkljcmjnphpeaaGreatDoor
open Go.RowKit
variable {bd off cap : Nat} {d : List Nat} {most : Nat} {w : World}
/-- What has come of filters.Decode. -/
def FdRes (w : World) (res : Except Nat (List Nat)) (e : Ending) (w' : World) : Prop := match res with
  | .ok l => ∃ v, e = .returned v ∧ w'.ownsRow w.heap.size 5 1 v l.length (l.map fun x : Nat => .int .u8 (x : Int)) ∧ Below w.heap.size w w'
  | .error n => e = gaveUp n ∧ Below w.heap.size w w'
theorem fdec_gen (f F : Nat) (hf : 1 ≤ f ∧ f ≤ 4) {res : Except Nat (List Nat)}
    (hF : F = (if f = 1 then 113 else if f = 2 then 114 else if f = 3 then 115 else 116))
    (hc : Calls Tryz.prog F #[.pointer (some ⟨w.heap.size, 0, none⟩)] (w.alloc (.cells #[.slice (some ⟨bd, off, none⟩) d.length cap, .int .i64 0, .slice none 0 0, .int .i64 most] 141 (0, 0))) fun e w' => DRes w.heap.size w.heap.size bd off cap d most (w.alloc (.cells #[.slice (some ⟨bd, off, none⟩) d.length cap, .int .i64 0, .slice none 0 0, .int .i64 most] 141 (0, 0))) res e w') :
    Calls Tryz.prog 80 #[.int .i64 f, .slice (some ⟨bd, off, none⟩) d.length cap, .int .i64 most] w (FdRes w res) := by
  have hfs : f = 1 ∨ f = 2 ∨ f = 3 ∨ f = 4 := by omega
  rcases hfs with rfl | rfl | rfl | rfl
  all_goals
    simp only [if_true, if_false, reduceIte, Nat.reduceEqDiff] at hF
    subst hF
    have HC := hide hc
    clear hc
    go_enter Tryz.func80, Tryz.ntmps80
    go_wp2_with fail
    refine HC.out.mono ?_
    intro e w1 h1
    cases res with
    | ok l =>
      obtain ⟨rfl, ov, r1, k1⟩ := h1
      have c2 := r1.c2
      go_wp2
      go_ret
      exact ⟨ov, rfl, r1.own, keptBelowNew k1⟩
    | error n =>
      obtain ⟨rfl, k1⟩ := h1
      exact ⟨rfl, rfl, keptBelowNew k1⟩
theorem fdec_says (f : Nat) (hbd : bd < w.heap.size) (hd : ∀ i, i < d.length → w.cell? ⟨bd, off + i, none⟩ = some (.int .u8 (nth d i : Nat))) (hb : ∀ i, i < d.length → nth d i < 256) (hc : d.length ≤ cap) (hlc : cap ≤ 9223372036854775807) (hm : most ≤ 1000000)
    (hord : OrdW w) (hG : 1 < w.heap.size) {res : Except Nat (List Nat)} (hres : UndoTo f most d res) :
    Calls Tryz.prog 80 #[.int .i64 f, .slice (some ⟨bd, off, none⟩) d.length cap, .int .i64 most] w (FdRes w res) := by
  have R := Rd.start (most := most) hbd hd hb hc hlc hm
  rcases hres with ⟨rfl, rfl⟩ | ⟨rfl, rfl⟩ | ⟨rfl, rfl⟩ | ⟨rfl, h⟩
  · exact fdec_gen 1 113 (by omega) rfl (decodeHex_says R)
  · exact fdec_gen 2 114 (by omega) rfl (decodeA85_says R)
  · exact fdec_gen 3 115 (by omega) rfl (decodeRun_says R)
  · refine fdec_gen 4 116 (by omega) rfl (decodeFlate_says R ?_ hG h)
    exact hord.kept ((Kept.refl 5 w.heap.size [w.heap.size] w).alloc _) hG (by simp; omega)
/-- What has come of Decode. -/
def DecRes (w : World) (res : Except Nat (List Nat)) (e : Ending) (w' : World) : Prop := match res with
  | .ok l => ∃ v, e = .returned (.tuple #[v, .int .i64 0]) ∧ w'.ownsRow w.heap.size 5 1 v l.length (l.map fun x : Nat => .int .u8 (x : Int)) ∧ Below w.heap.size w w'
  | .error n => e = .returned (.tuple #[.slice none 0 0, .int .i64 (n : Nat)]) ∧ Below w.heap.size w w'
theorem decode_says (f : Nat) (hf : 1 ≤ f ∧ f ≤ 4) (hbd : bd < w.heap.size) (hd : ∀ i, i < d.length → w.cell? ⟨bd, off + i, none⟩ = some (.int .u8 (nth d i : Nat))) (hb : ∀ i, i < d.length → nth d i < 256) (hc : d.length ≤ cap) (hlc : cap ≤ 9223372036854775807) (hm : most ≤ 1000000) (hl : d.length ≤ 200000)
    (hord : OrdW w) (hG : 1 < w.heap.size) {res : Except Nat (List Nat)} (hres : UndoTo f most d res) :
    Calls Tryz.prog 39 #[.int .i64 f, .slice (some ⟨bd, off, none⟩) d.length cap, .int .i64 most] w (DecRes w res) := by
  have hW : ∀ W : World, Below w.heap.size w W → w.heap.size ≤ W.heap.size → Calls Tryz.prog 80 #[.int .i64 f, .slice (some ⟨bd, off, none⟩) d.length cap, .int .i64 most] W (FdRes W res) := fun W b z =>
    fdec_says f (by omega) (fun i hi => by rw [b.cell (p := ⟨bd, off + i, none⟩) hbd]; exact hd i hi) hb hc hlc hm (fun i hi => by rw [b.cell (p := ⟨1, i, none⟩) hG]; exact hord i hi) (by omega) hres
  cases res with
  | ok l => exact decode_returns f hf bd off cap d most hm hl l hW
  | error n => exact decode_panics f hf bd off cap d most hm hl n hW
theorem decode_arg (f most : Int) (a : Option Addr) (n c : Nat) (h : f < 1 ∨ 4 < f ∨ most < 0 ∨ 1000000 < most) :
    Calls Tryz.prog 39 #[.int .i64 f, .slice a n c, .int .i64 most] w (DecRes w (.error 1)) := by
  by_cases c1 : f < 1 ∨ 4 < f
  · go_enter_defers Tryz.func39, Tryz.ntmps39
    go_wp2_with (go_at_call 63; refine (within_int_no _ _ _ _ c1).mono ?_; rintro e w' ⟨rfl, rfl⟩)
    simp [bodyPostD, Leaves, settle, results, Tryz.results39, go_sem]
    exact ⟨rfl, ((Below.refl _ _).alloc (Nat.le_refl _) _).alloc (by simp) _⟩
  · have c2 : most < 0 ∨ 1000000 < most := by omega
    go_enter_defers Tryz.func39, Tryz.ntmps39
    go_wp2_with (go_at_call 63; first | (refine (within_int_yes _ _ _ _ (by omega) (by omega)).mono ?_; rintro e w' ⟨rfl, rfl⟩) | (refine (within_int_no _ _ _ _ c2).mono ?_; rintro e w' ⟨rfl, rfl⟩))
    simp [bodyPostD, Leaves, settle, results, Tryz.results39, go_sem]
    exact ⟨rfl, ((Below.refl _ _).alloc (Nat.le_refl _) _).alloc (by simp) _⟩
theorem decode_long (f most : Int) (a : Option Addr) (n c : Nat) (h1 : 1 ≤ f) (h2 : f ≤ 4) (h3 : 0 ≤ most) (h4 : most ≤ 1000000) (hn : 200000 < n) :
    Calls Tryz.prog 39 #[.int .i64 f, .slice a n c, .int .i64 most] w (DecRes w (.error 3)) := by
  have hn' : (200000 : Int) < n := by omega
  go_enter_defers Tryz.func39, Tryz.ntmps39
  go_wp2_with (go_at_call 63; first | (refine (within_int_yes _ _ _ _ (by omega) (by omega)).mono ?_; rintro e w' ⟨rfl, rfl⟩) | (refine (within_int_no _ _ _ _ (Or.inr hn')).mono ?_; rintro e w' ⟨rfl, rfl⟩))
  simp [bodyPostD, Leaves, settle, results, Tryz.results39, go_sem]
  exact ⟨rfl, ((Below.refl _ _).alloc (Nat.le_refl _) _).alloc (by simp) _⟩
end Go.Proofs.YtgkljcmjnphpeaaGreatDoor
namespace Go.Proofs.YtgkljcmjnphpeaaGreatDoor
open Go.RowKit
variable {w : World}
/-- The cells of bytes. -/
def u8s (l : List Nat) : List Value := l.map fun x : Nat => Value.int .u8 (x : Int)
theorem u8s_len (l : List Nat) : (u8s l).length = l.length := by simp [u8s]
theorem byteCells_bl (S : ByteArray) : byteCells S = u8s (bl S) := by
  simp [byteCells, u8s, bl]
theorem run_copy_str (ty g dLen dCap : Nat) (S : ByteArray) (cur : List Value) (hg : w.heap[g]? = some (.cells cur.toArray 5 (0, 0))) (hn : S.size ≤ dLen) (hfit : S.size ≤ cur.length) :
    (Builtin.copy_ #[23, 9] ty #[.slice (some ⟨g, 0, none⟩) dLen dCap, .string S]).run Tryz.prog w = .ok (goInt S.size) (w.setRow g (u8s (bl S) ++ cur.drop S.size).toArray) := by
  have hl : (byteCells S).length = S.size := by rw [byteCells_bl, u8s_len, bl_len]
  have hst := run_storeCells_at Tryz.prog g 0 5 (byteCells S) 0 cur.toArray w hg (by rw [hl]; simpa using hfit) (by intro v hv; rw [byteCells_bl] at hv; obtain ⟨x, _, rfl⟩ := List.mem_map.1 hv; rfl)
  have hmin : Nat.min S.size dLen = S.size := Nat.min_eq_left hn
  obtain ⟨i0, hi, hz0, hz1, hz2⟩ := info_parts Tryz.infoByte
  have hfc := firstCells_string (P := Tryz.prog) S w
  simp [Builtin.copy_, run_underlying Tryz.underlying23, Builtin.lenOf, sizeOf, typeInfo, hi, hz1, hmin, hfc, hst]
  rw [byteCells_bl, u8s_len, bl_len]
theorem row_made8 {w1 : World} {B g N : Nat} (h : w1.ownsRow B 5 1 (.slice (some ⟨g, 0, none⟩) N N) N (madeCells (Value.cells (.int .u8 0)) (N * 1)).toList) : w1.heap[g]? = some (.cells (u8s (List.replicate N 0)).toArray 5 (0, 0)) := by
  rcases h.2 with ⟨h0, _⟩ | ⟨g', cap, cur, hv, _, hh, _, _, hcs, ht⟩
  · cases h0
  cases hv
  have e : cur.toList = (madeCells (Value.cells (.int .u8 0)) (N * 1)).toList := by
    rw [← ht, List.take_of_length_le (by rw [Array.length_toList, hcs]; omega)]
  have e2 : (madeCells (Value.cells (.int .u8 0)) (N * 1)).toList = u8s (List.replicate N 0) := by
    show (madeCells #[Value.int .u8 0] (N * 1)).toList = _
    rw [Nat.mul_one]
    apply List.ext_getElem
    · simp [madeCells, u8s]
    · intro i h1 h2
      simp [madeCells, u8s, Nat.mod_one]
  rw [hh]
  congr 2
  rw [← e2, ← e]
theorem nth_app_rep (a : List Nat) (m x i : Nat) : nth (a ++ List.replicate m x) i = if i < a.length then nth a i else if i - a.length < m then x else 0 := by
  unfold nth
  rw [List.getD_eq_getElem?_getD, List.getD_eq_getElem?_getD]
  by_cases c : i < a.length
  · rw [if_pos c, List.getElem?_append_left c]
  · rw [if_neg c, List.getElem?_append_right (by omega), List.getElem?_replicate]
    by_cases c2 : i - a.length < m
    · rw [if_pos c2, if_pos c2]; rfl
    · rw [if_neg c2, if_neg c2]; rfl
/-- What is lent: the bytes, and eight more behind them. -/
def lentB (S : ByteArray) : List Nat := bl S ++ List.replicate 8 77
theorem lentB_len (S : ByteArray) : (lentB S).length = S.size + 8 := by simp [lentB, bl_len]
set_option maxRecDepth 100000 in
set_option maxHeartbeats 1000000 in
theorem lent_ok (S : ByteArray) (hS : S.size ≤ 140737488351232) :
    Calls Tryz.prog 32 #[.string S] w fun e w' => ∃ g, e = .returned (.slice (some ⟨g, 0, none⟩) (S.size + 8) (S.size + 8)) ∧ w'.heap[g]? = some (.cells (u8s (lentB S)).toArray 5 (0, 0)) ∧ Below w.heap.size w w' ∧ w.heap.size ≤ g := by
  obtain ⟨i0, hi, hz0, hz1, hz2⟩ := info_parts Tryz.infoByte
  obtain ⟨N, hN⟩ : ∃ N, S.size + 8 = N := ⟨_, rfl⟩
  have eN : (S.size : Int) + 8 = N := by omega
  have hzl : (u8s (List.replicate N 0)).length = N := by simp [u8s]
  go_enter Tryz.func32, Tryz.ntmps32
  go_wp2_with (at_make; refine wpList_make_full _ rfl _ _ 23 rfl w.heap.size 5 i0 (.int .u8 0) 1 Tryz.underlying23 hi hz0 hz1 .i64 .i64 _ _ N rfl rfl (by omega) (by omega) (by rw [hz2]; omega) (by unfold maxLen; omega) (Nat.le_refl _) ?_; intro w1 hown1 hg1; have hcp := run_copy_str (w := w1) 3 w.heap.size N N S (u8s (List.replicate N 0)) (row_made8 hown1) (by omega) (by rw [hzl]; omega))
  have hrow := row_made8 hown1
  have b1 : Below w.heap.size w w1 := (Below.refl _ _).grown hg1 (Nat.le_refl _) (fun k h => by cases h)
  have hl0 : u8s (bl S) ++ (u8s (List.replicate N 0)).drop S.size = u8s (bl S ++ List.replicate 8 0) := by
    have : (u8s (List.replicate N 0)).drop S.size = u8s (List.replicate 8 0) := by
      unfold u8s
      rw [← List.map_drop, List.drop_replicate, show N - S.size = 8 by omega]
    rw [this]; simp [u8s]
  rw [hl0]
  have hrow2 : (w1.setRow w.heap.size (u8s (bl S ++ List.replicate 8 0)).toArray).heap[w.heap.size]? = some (.cells (u8s (bl S ++ List.replicate 8 0)).toArray 5 (0, 0)) := setRow_heap w1 w.heap.size _ _ _ _ hrow
  have b2 : Below w.heap.size w (w1.setRow w.heap.size (u8s (bl S ++ List.replicate 8 0)).toArray) := b1.trans ⟨rfl, rfl, rfl, by simp [World.setRow], fun k hk => setRow_other w1 w.heap.size k _ (by omega)⟩
  generalize w1.setRow w.heap.size (u8s (bl S ++ List.replicate 8 0)).toArray = w2 at *
  have HR2 := hide hrow2
  have B2 := hide b2
  obtain ⟨g, hg⟩ : ∃ g, w.heap.size = g := ⟨_, rfl⟩
  have HG := hide hg
  rw [hg] at HR2 ⊢
  have HNN := hide hN
  clear hrow b1 hl0 hrow2 b2 hcp hown1 hg1 hzl hg
  have hlen : (bl S ++ List.replicate 8 0).length = N := by rw [List.length_append, bl_len, List.length_replicate]; exact HNN.out
  have HL0 := hide hlen
  go_loopw [4] (fun vi wr => ∃ (k : Nat) (l : List Nat), vi = .int .i64 k ∧ S.size ≤ k ∧ k ≤ N ∧ wr.heap[g]? = some (.cells (u8s l).toArray 5 (0, 0)) ∧ Hid (l.length = N) ∧ Hid (∀ i, i < N → nth l i = if i < S.size then nth (bl S) i else if i < k then 77 else 0) ∧ Below w.heap.size w wr) (fun vi _ => N - (intOf vi).toNat)
  case atStart =>
    refine ⟨S.size, _, rfl, Nat.le_refl _, by omega, HR2.out, HL0, fun i hi => ?_, B2.out⟩
    rw [nth_app_rep, bl_len]
    by_cases c : i < S.size
    · rw [if_pos c, if_pos c]
    · rw [if_neg c, if_neg c, if_neg c, ite_self]
  clear HR2 B2 HL0 hlen
  case round =>
    obtain ⟨k, l, rfl, h1, h2, hr, HL, HA, bb⟩ := hrel
    by_cases ck : k < N
    · have ck' : (k : Int) < N := by omega
      obtain ⟨x, hx⟩ : ∃ x, wr.cell? ⟨g, k, none⟩ = some x := by
        rw [cell_blk hr]
        exact ⟨_, Array.getElem?_eq_getElem (by simp [u8s, HL.out]; omega)⟩
      have fx : wr.frozen? ⟨g, k, none⟩ = false := free_blk hr
      have HR3 : Hid ((wr.setCell ⟨g, k, none⟩ (.int .u8 77)).heap[g]? = some (.cells (u8s (l.set k 77)).toArray 5 (0, 0))) := by
        unfold Hid
        rw [blk_setCell _ hr]
        simp [u8s, List.map_set]
      have B3 := hide (bb.setCell (p := ⟨g, k, none⟩) (by rw [HG.out]; exact Nat.le_refl _) (.int .u8 77))
      clear hr bb
      go_wp2
      go_roundw
      case rel =>
        refine ⟨k + 1, l.set k 77, by go_num, by omega, by omega, HR3.out, by unfold Hid; rw [List.length_set]; exact HL.out, fun i hi => ?_, B3.out⟩
        by_cases c : i = k
        · subst c
          rw [nth_set_self _ _ _ (by rw [HL.out]; exact hi), if_neg (by omega), if_pos (by omega)]
        · rw [nth_set_ne _ _ _ _ (fun h => c h.symm), HA.out i hi]
          split
          · rfl
          · by_cases c2 : i < k
            · rw [if_pos c2, if_pos (by omega)]
            · rw [if_neg c2, if_neg (by omega)]
      case measure => simp [intOf]; omega
    · have ck' : ¬ (k : Int) < N := by omega
      obtain rfl : k = N := by omega
      have hE : l = lentB S := by
        refine list_ext _ _ (by rw [HL.out, lentB_len]; exact HNN.out.symm) (fun i hi => ?_)
        rw [HL.out] at hi
        rw [HA.out i hi]
        rw [lentB, nth_app_rep, bl_len]
        by_cases c : i < S.size
        · rw [if_pos c, if_pos c]
        · rw [if_neg c, if_neg c, if_pos hi, if_pos (by have := HNN.out; omega)]
      subst hE
      have HR := hide hr
      have BB := hide bb
      clear hr bb HA HL
      go_wp2
      go_ret
      exact ⟨g, by first | rfl | (rw [HNN.out]; rfl) | (have hh := HNN.out; subst hh; rfl), HR.out, BB.out, by rw [HG.out]; exact Nat.le_refl _⟩
end Go.Proofs.YtgkljcmjnphpeaaGreatDoor
namespace Go.Proofs.YtgkljcmjnphpeaaGreatDoor
open Go.RowKit
variable {w : World}
theorem strN_bl (S : ByteArray) : strN (bl S) = S := by
  unfold strN bl
  rw [List.map_map]
  have : (UInt8.ofNat ∘ UInt8.toNat) = id := by funext x; simp
  rw [this, List.map_id, Array.toArray_toList]
set_option maxRecDepth 100000 in
set_option maxHeartbeats 1000000 in
theorem kept_law (S : ByteArray) (hS : S.size ≤ 140737488351232) (g : Nat) (hg : w.heap[g]? = some (.cells (u8s (lentB S)).toArray 5 (0, 0))) :
    Calls Tryz.prog 34 #[.slice (some ⟨g, 0, none⟩) (S.size + 8) (S.size + 8), .string S] w fun e w' => e = .returned (.bool true) ∧ Kept 5 w.heap.size [g] w w' := by
  obtain ⟨N, hN⟩ : ∃ N, S.size + 8 = N := ⟨_, rfl⟩
  rw [hN]
  have hlB : (lentB S).length = N := by rw [lentB_len]; exact hN
  have hcs := string_cells (w := w) ⟨g, 0, none⟩ N (bl S) (fun j hj => by
    rw [bl_len] at hj
    rw [addr_add, cell_blk hg, List.getElem?_toArray]
    have : nth (bl S) j = nth (lentB S) j := by rw [lentB, nth_app_rep, bl_len, if_pos hj]
    rw [this]
    simp [u8s, nth, List.getElem?_eq_getElem (show j < (lentB S).length by omega)])
  rw [bl_len, strN_bl] at hcs
  have hSN : (S.size : Int) ≤ N := by omega
  have HLB := hide hlB
  have HNN := hide hN
  have HG := hide hg
  clear hlB hg
  go_enter Tryz.func34, Tryz.ntmps34
  go_wp2
  go_loopw [5, 6] (fun vo vi wr => ∃ (k : Nat) (l : List Nat), vo = .bool true ∧ vi = .int .i64 k ∧ k ≤ N ∧ wr.heap[g]? = some (.cells (u8s l).toArray 5 (0, 0)) ∧ Hid (l.length = N) ∧ Hid (∀ i, k ≤ i → nth l i = nth (lentB S) i) ∧ Kept 5 w.heap.size [g] w wr) (fun _ vi _ => N - (intOf vi).toNat)
  case atStart =>
    refine ⟨0, lentB S, ?_, rfl, Nat.zero_le _, HG.out, HLB, fun i _ => rfl, Kept.refl _ _ _ _⟩
    simp
  clear hcs HG
  case round =>
    obtain ⟨k, l, rfl, rfl, hk, hr, HL, HA, kk⟩ := hrel
    by_cases ck : k < N
    · have ck' : (k : Int) < N := by omega
      have hx : wr.cell? ⟨g, k, none⟩ = some (.int .u8 (nth l k : Nat)) := by
        rw [cell_blk hr, List.getElem?_toArray]
        simp [u8s, nth, List.getElem?_eq_getElem (show k < l.length by rw [HL.out]; exact ck)]
      have h77 : S.size ≤ k → nth l k = 77 := fun h => by
        rw [HA.out k (Nat.le_refl _), lentB, nth_app_rep, bl_len, if_neg (by omega), if_pos (by have := HNN.out; omega)]
      have H77 := hide h77
      have fx : wr.frozen? ⟨g, k, none⟩ = false := free_blk hr
      have HR3 : Hid ((wr.setCell ⟨g, k, none⟩ (.int .u8 77)).heap[g]? = some (.cells (u8s (l.set k 77)).toArray 5 (0, 0))) := by
        unfold Hid
        rw [blk_setCell _ hr]
        simp [u8s, List.map_set]
      have K3 := hide (kk.setCell (p := ⟨g, k, none⟩) (by simp) (.int .u8 77))
      have HREL : Hid ((l.set k 77).length = N ∧ ∀ i, k + 1 ≤ i → nth (l.set k 77) i = nth (lentB S) i) := ⟨by rw [List.length_set]; exact HL.out, fun i hi => by rw [nth_set_ne _ _ _ _ (by omega)]; exact HA.out i (by omega)⟩
      clear hr kk h77 HA
      by_cases cs : k < S.size
      · have cs' : (k : Int) < S.size := by omega
        clear H77
        generalize nth l k = X at *
        go_wp2
        go_roundw
        case rel => exact ⟨k + 1, l.set k 77, rfl, by go_num, by omega, HR3.out, HREL.out.1, HREL.out.2, K3.out⟩
        case measure => simp [intOf]; omega
      · have cs' : ¬ (k : Int) < S.size := by omega
        rw [H77.out (by omega)] at hx
        go_wp2
        go_roundw
        case rel => exact ⟨k + 1, l.set k 77, rfl, by go_num, by omega, HR3.out, HREL.out.1, HREL.out.2, K3.out⟩
        case measure => simp [intOf]; omega
    · have ck' : ¬ (k : Int) < N := by omega
      obtain rfl : k = N := by omega
      go_wp2
      go_ret
      exact ⟨rfl, kk⟩
end Go.Proofs.YtgkljcmjnphpeaaGreatDoor
namespace Go.Proofs.YtgkljcmjnphpeaaGreatDoor
open Go.RowKit
variable {w : World}
theorem num_ok (n : Int) (w : World) : Calls Tryz.prog 35 #[.int .i64 n] w fun e w' => e = .returned (.int .i64 n) ∧ w' = w := by
  go_enter Tryz.func35, Tryz.ntmps35
  go_wp2
  go_ret
  exact ⟨rfl, rfl⟩
theorem own_keptG {B g n size : Nat} {v : Value} {xs : List Value} {w' : World} (h : w.ownsRow B 5 size v n xs) (k : Kept 5 w.heap.size [g] w w') (hg : g < B) : w'.ownsRow B 5 size v n xs := by
  obtain ⟨h1, h2⟩ := h
  refine ⟨h1, ?_⟩
  rcases h2 with h2 | ⟨g', c, cur, e1, e2, hh, hc⟩
  · exact Or.inl h2
  · exact Or.inr ⟨g', c, cur, e1, e2, k.block g' _ (by simp; omega) hh (Or.inl (lt_of_block hh)), hc⟩
/-- What is answered, as a string. -/
def resS : Except Nat (List Nat) → ByteArray
  | .ok l => strN l
  | .error _ => { data := #[] }
/-- What is answered, as an error. -/
def resE : Except Nat (List Nat) → Nat
  | .ok _ => 0
  | .error n => n
theorem resV_eq (res : Except Nat (List Nat)) : resV res = .tuple #[.string (resS res), .int .i64 (resE res : Nat)] := by cases res <;> rfl
theorem decRes_eq {W w' : World} {res : Except Nat (List Nat)} {e : Ending} (h : DecRes W res e w') : ∃ v l, e = .returned (.tuple #[v, .int .i64 (resE res : Nat)]) ∧ w'.ownsRow W.heap.size 5 1 v l.length (l.map fun x : Nat => .int .u8 (x : Int)) ∧ strN l = resS res ∧ Below W.heap.size W w' := by
  cases res with
  | ok l =>
    obtain ⟨v, rfl, ho, hb⟩ := h
    exact ⟨v, l, rfl, ho, rfl, hb⟩
  | error n =>
    obtain ⟨rfl, hb⟩ := h
    exact ⟨_, [], rfl, World.ownsRow_nil _ _ _ _, rfl, hb⟩
set_option maxRecDepth 100000 in
set_option maxHeartbeats 1000000 in
theorem undone_gen (f most : Int) (S : ByteArray) (hS : S.size ≤ 140737488351232) {res : Except Nat (List Nat)}
    (hD : ∀ (W : World) (g : Nat), Below w.heap.size w W → W.heap[g]? = some (.cells (u8s (lentB S)).toArray 5 (0, 0)) → Calls Tryz.prog 39 #[.int .i64 f, .slice (some ⟨g, 0, none⟩) S.size (S.size + 8), .int .i64 most] W (DecRes W res))
    (hR : ∀ W : World, Calls Tryz.prog 40 #[.int .i64 f, .string S, .int .i64 most] W fun x w' => x = .returned (resV res) ∧ Below W.heap.size W w') :
    Calls Tryz.prog 14 #[.int .i64 f, .string S, .int .i64 most] w fun e w' => ∃ v, e = .returned (.tuple #[v, .bool true]) ∧ (convert 23 9 v).run Tryz.prog w' = .ok (.string (resS res)) w' ∧ Below w.heap.size w w' := by
  have HD := hide hD
  have HR : Hid (∀ W : World, Calls Tryz.prog 40 #[.int .i64 f, .string S, .int .i64 most] W fun x w' => x = .returned (.tuple #[.string (resS res), .int .i64 (resE res : Nat)]) ∧ Below W.heap.size W w') := fun W => by rw [← resV_eq]; exact hR W
  clear hD hR
  have hSN : (S.size : Int) ≤ (S.size : Int) + 8 := by omega
  generalize hT : resS res = T at *
  generalize hn : resE res = n at *
  have HT := hide hT
  have Hn := hide hn
  clear hT hn
  go_enter Tryz.func14, Tryz.ntmps14
  go_wp2_with fail
  refine (lent_ok S hS).mono ?_
  rintro e w1 ⟨g, rfl, hg, b1, hgw⟩
  have hg1 := lt_of_block hg
  have HD1 := hide (HD.out w1 g b1 hg)
  go_wp2_with fail
  refine HD1.out.mono ?_
  intro e w2 h2
  obtain ⟨v, l, rfl, ho2, hs2, b2⟩ := decRes_eq h2
  rw [Hn.out]
  obtain ⟨ao, oc, rfl⟩ := own_slice ho2
  have hg2 : w2.heap[g]? = some (.cells (u8s (lentB S)).toArray 5 (0, 0)) := by rw [b2.block _ hg1]; exact hg
  have HK := hide (kept_law S hS g hg2)
  clear h2 HD1 HD
  go_wp2_with fail
  refine HK.out.mono ?_
  rintro e w3 ⟨rfl, k3⟩
  have ho3 := own_keptG ho2 k3 hg1
  go_wp2_with fail
  refine (HR.out w3).mono ?_
  rintro e w4 ⟨rfl, b4⟩
  have ho4 := own_below ho3 b4
  have hcv := string_own ho4
  rw [hs2, HT.out] at hcv
  have hB : Hid (Below w.heap.size w w4) := by
    refine (b1.trans (b2.mono b1.size)).trans ?_
    have z3 := k3.size
    have z2 := b2.size
    have z1 := b1.size
    exact ⟨b4.os.trans k3.os, b4.tape.trans k3.tape, b4.output.trans k3.output, Nat.le_trans z3 b4.size, fun k hk => by
      rw [b4.block k (by omega)]
      cases hk2 : w2.heap[k]? with
      | none => simp at hk2; omega
      | some o => exact k3.block k o (by simp; omega) hk2 (Or.inl (by omega))⟩
  clear b1 b2 k3 b4 ho2 ho3 ho4 HK HR hg hg2
  go_wp2_with (go_at_call 35; refine (num_ok _ _).mono ?_; rintro e w' ⟨rfl, rfl⟩)
  go_ret2
  exact ⟨_, rfl, hcv, hB.out⟩
end Go.Proofs.YtgkljcmjnphpeaaGreatDoor
namespace Go.Proofs.YtgkljcmjnphpeaaGreatDoor
open Go.RowKit
variable {w : World}
theorem lentB_nth (S : ByteArray) (i : Nat) (hi : i < S.size) : nth (lentB S) i = nth (bl S) i := by rw [lentB, nth_app_rep, bl_len, if_pos hi]
theorem lent_cells {W : World} {S : ByteArray} {g : Nat} (hg : W.heap[g]? = some (.cells (u8s (lentB S)).toArray 5 (0, 0))) (i : Nat) (hi : i < (bl S).length) : W.cell? ⟨g, 0 + i, none⟩ = some (.int .u8 (nth (bl S) i : Nat)) := by
  rw [bl_len] at hi
  rw [Nat.zero_add, cell_blk hg, List.getElem?_toArray, ← lentB_nth S i hi]
  simp [u8s, nth, List.getElem?_eq_getElem (show i < (lentB S).length by rw [lentB_len]; omega)]
theorem undone_right (f most : Nat) (h1 : 1 ≤ f) (h4 : f ≤ 4) (hm : most ≤ 1000000) (S : ByteArray) (hS : S.size ≤ 200000) (hord : OrdW w) (hG : 1 < w.heap.size) {res : Except Nat (List Nat)} (hres : UndoTo f most (bl S) res) :
    Calls Tryz.prog 14 #[.int .i64 f, .string S, .int .i64 most] w fun e w' => ∃ v, e = .returned (.tuple #[v, .bool true]) ∧ (convert 23 9 v).run Tryz.prog w' = .ok (.string (resS res)) w' ∧ Below w.heap.size w w' := by
  refine undone_gen f most S (by omega) (fun W g b hg => ?_) (fun W => rdecode_ok f most h1 h4 hm hS hres)
  have hd := decode_says (w := W) (bd := g) (off := 0) (cap := S.size + 8) (d := bl S) (most := most) f ⟨h1, h4⟩ (lt_of_block hg) (lent_cells hg) (fun i hi => by rw [bl_len] at hi; exact bl_lt S i hi) (by rw [bl_len]; omega) (by omega) hm (by rw [bl_len]; exact hS)
    (fun i hi => by rw [b.cell (p := ⟨1, i, none⟩) hG]; exact hord i hi) (Nat.lt_of_lt_of_le hG b.size) hres
  rw [bl_len] at hd
  exact hd
theorem undone_ok (f most : Int) (S : ByteArray) (hS : S.size ≤ 140737488351232) (hord : OrdW w) (hG : 1 < w.heap.size) :
    Calls Tryz.prog 14 #[.int .i64 f, .string S, .int .i64 most] w fun e w' => ∃ v, e = .returned (.tuple #[v, .bool true]) ∧ Below w.heap.size w w' := by
  by_cases c1 : f < 1 ∨ 4 < f ∨ most < 0 ∨ 1000000 < most
  · refine (undone_gen f most S hS (res := .error 1) (fun W g b hg => decode_arg f most _ _ _ c1) (fun W => (rdecode_arg f most c1).mono ?_)).mono ?_
    · rintro x w' ⟨rfl, rfl⟩
      exact ⟨rfl, Below.refl _ _⟩
    · rintro e w' ⟨v, rfl, _, hb⟩
      exact ⟨v, rfl, hb⟩
  by_cases c2 : 200000 < S.size
  · refine (undone_gen f most S hS (res := .error 3) (fun W g b hg => decode_long f most _ _ _ (by omega) (by omega) (by omega) (by omega) c2) (fun W => (rdecode_long f most (by omega) (by omega) (by omega) (by omega) c2).mono ?_)).mono ?_
    · rintro x w' ⟨rfl, rfl⟩
      exact ⟨rfl, Below.refl _ _⟩
    · rintro e w' ⟨v, rfl, _, hb⟩
      exact ⟨v, rfl, hb⟩
  obtain ⟨F, rfl⟩ : ∃ F : Nat, f = F := ⟨f.toNat, by omega⟩
  obtain ⟨M, rfl⟩ : ∃ M : Nat, most = M := ⟨most.toNat, by omega⟩
  obtain ⟨res, hres⟩ := UndoTo.some F M (bl S) (by omega) (by omega)
  refine (undone_right F M (by omega) (by omega) (by omega) S (by omega) hord hG hres).mono ?_
  rintro e w' ⟨v, rfl, _, hb⟩
  exact ⟨v, rfl, hb⟩
end Go.Proofs.YtgkljcmjnphpeaaGreatDoor
namespace Go.Proofs.YtgkljcmjnphpeaaGreatDoor
open Go.RowKit
variable {w : World}
set_option maxRecDepth 100000 in
set_option maxHeartbeats 1000000 in
theorem rdo_hex (S : ByteArray) (hS : S.size ≤ 200000) :
    Calls Tryz.prog 36 #[.int .i64 1, .string S] w fun x w' => x = .returned (.string (strN (Fo.hexOf (bl S) ++ [62]))) ∧ Kept 5 w.heap.size [] w w' := by
  obtain ⟨i0, hi, hz0, hz1, hz2⟩ := info_parts Tryz.infoByte
  have hl := hide (bl_len S)
  obtain ⟨B, hB⟩ : ∃ B, w.heap.size = B := ⟨_, rfl⟩
  rw [hB]
  have HB := hide hB
  clear hB
  go_enter Tryz.func36, Tryz.ntmps36
  go_wp2
  go_loopw [5, 6] (fun v i wr => ∃ k : Nat, k ≤ S.size ∧ i = .int .i64 k ∧ wr.ownsRow B 5 1 v (Fo.hexOf ((bl S).take k)).length ((Fo.hexOf ((bl S).take k)).map fun x : Nat => .int .u8 (x : Int)) ∧ Kept 5 B [] w wr) (fun _ i _ => S.size - (intOf i).toNat)
  case atStart => exact ⟨0, Nat.zero_le _, rfl, World.ownsRow_nil _ _ _ _, Kept.refl _ _ _ _⟩
  case round =>
    obtain ⟨k, hk, rfl, hr, kk⟩ := hrel
    have hsz := kk.size
    have hszB : Hid (B ≤ wr.heap.size) := by have := HB.out; unfold Hid; omega
    have hlen : Hid ((Fo.hexOf ((bl S).take k)).length = 2 * k) := by unfold Hid; rw [Fo.hexOf_length, List.length_take, hl.out]; omega
    by_cases hlt : k < S.size
    · have hlt' : (k : Int) < S.size := by omega
      have hx := bl_nth S k hlt
      have hb := bl_lt S k hlt
      have e1 : Hid (Fo.hexOf ((bl S).take (k + 1)) = Fo.hexOf ((bl S).take k) ++ [Fo.hexDig (nth (bl S) k / 16), Fo.hexDig (nth (bl S) k % 16)]) := by
        have h2 : k < (bl S).length := by rw [hl.out]; exact hlt
        unfold Hid
        rw [List.take_succ_eq_append_getElem h2, Fo.hexOf_append]; simp [Fo.hexOf, nth, h2]
      generalize nth (bl S) k = b at *
      have g1 : 0 ≤ (b : Int) / 16 := by omega
      have g2 : (b : Int) / 16 < 16 := by omega
      have g4 : (b : Int) % 16 < 16 := by omega
      have g5 : 0 ≤ (b : Int) % 16 := by omega
      have E1 : Hid (((b : Int) / 16).toNat = b / 16) := by unfold Hid; omega
      have E2 : Hid (((b : Int) % 16).toNat = b % 16) := by unfold Hid; omega
      have gw : IntKind.u8.wrap ((b : Int) / 16) = (b : Int) / 16 := by rw [IntKind.wrap_u8]; omega
      have gt : (b : Int).tmod 16 = (b : Int) % 16 := Int.tmod_eq_emod_of_nonneg (by omega)
      go_wp2_with fail
      go_region_law (refine step_append_own' rfl (.tmp 19) (.tmp 30) 23 rfl B 5 i0 (.int .u8 0) 1 1 Tryz.underlying23 hi hz0 hz1 hz2 rfl (by decide) _ _ _ rfl (World.ownsRow.drew (hr.alloc _)) ⟨wr.heap.size, 0, none⟩ 2 2 ([Fo.hexDig (b / 16), Fo.hexDig (b % 16)].map fun x : Nat => .int .u8 (x : Int)) rfl (by simp) ?hnews ?hone ?h63 ?hby ?hb ?_; (case hnews => refine hexNews ?_ ?_ <;> simp only [E1.out, E2.out] <;> exact congrArg _ (hexLit _ (by omega) _)); (case hone => intro u hu; simp at hu; rcases hu with rfl | rfl <;> rfl); (case h63 => have := hlen.out; unfold maxLen; omega); (case hby => have := hlen.out; omega); (case hb => have := hszB.out; simp; omega); intro v' w1 hown1 hg1 _)
      all_goals (have KK := ((kk.alloc _).drew).grown hg1 (own_row (World.ownsRow.drew (hr.alloc _))))
      all_goals (clear hr hg1)
      all_goals (rw [← List.map_append, ← e1.out, show (Fo.hexOf ((bl S).take k)).length + 2 = (Fo.hexOf ((bl S).take (k + 1))).length by rw [e1.out]; simp] at hown1)
      all_goals go_wp2
      all_goals go_roundw
      all_goals first | exact ⟨k + 1, by omega, by go_num, hown1, KK⟩ | (simp [intOf]; omega)
    · obtain rfl : k = S.size := by omega
      rw [← hl.out, List.take_length] at hr hlen
      rw [hl.out] at hlen
      have hlt' : ¬ (S.size : Int) < S.size := by omega
      go_wp2_with (at_builtin; refine wpList_append_own _ rfl (.tmp 32) (.tmp 33) 23 rfl B 5 i0 (.int .u8 0) 1 1 Tryz.underlying23 hi hz0 hz1 hz2 rfl (by decide) _ _ _ rfl (hr.alloc _) ⟨wr.heap.size, 0, none⟩ 1 1 [.int .u8 62] rfl rfl ?c1 ?c2 ?c3 ?c4 ?c5 ?_)
      case c2 => rfl
      case c3 => have := hlen.out; unfold maxLen; omega
      case c4 => have := hlen.out; omega
      case c5 => have := hszB.out; simp; omega
      intro v' w2 hr2 hg2 _
      have k2 := (kk.alloc _).grown hg2 (own_row (hr.alloc _))
      have hr3 : w2.ownsRow B 5 1 v' (Fo.hexOf (bl S) ++ [62]).length ((Fo.hexOf (bl S) ++ [62]).map fun x : Nat => .int .u8 (x : Int)) := by
        rw [List.map_append, List.length_append]; exact hr2
      have hcv := string_own hr3
      clear hg2 hr hr2 hr3
      go_wp2
      go_ret
      exact ⟨rfl, k2⟩
end Go.Proofs.YtgkljcmjnphpeaaGreatDoor
